/-
  A field of a general name that a call has returned.
  The contract of the law's some: a general name of the generators, perhaps with a field of another one.
  A row of attributes grows by one that has just been made. Nothing is claimed of the program here.
  The contract of the reference's Dec: the decimal digits of a number.
  The contract of the law's function id: the text of a good list of numbers that is made of the given ones.
  The contract of oid.Decode: the object identifier with these contents, if there is one.
  The contract of the definition's DecodeOID: the object identifier with these contents, if there is one.
  What the decoders of names answer; the contract of slices.Contains over ints, and of the closure next of decodeAttribute.
  The contract of decodeAttribute: what an element says of an attribute, or the error.
-/
import Derived.Test.YtflpajbcomhkpaaGreatDoorUba
import Derived.Deep.CutRange
import Derived.Deep.DeepCutAuto
import Derived.Test.YtflpajbcomhkpaaGreatDoorUao
import Derived.Test.YtflpajbcomhkpaaGreatDoorUaa
import Derived.Test.YtflpajbcomhkpaaGreatDoorUar
import Derived.Lib.ItoaLen
import Derived.Test.YtflpajbcomhkpaaGreatDoorUav
import Derived.Test.YtflpajbcomhkpaaGreatDoorUas
import Derived.Test.YtflpajbcomhkpaaGreatDoorUau
import Derived.Test.YtflpajbcomhkpaaGreatDoorUai
import Derived.Test.YtflpajbcomhkpaaGreatDoorUal
namespace Go.Proofs.YtflpajbcomhkpaaGreatDoor
open Go.RowKit

end Go.Proofs.YtflpajbcomhkpaaGreatDoor
namespace Go.Proofs.YtflpajbcomhkpaaGreatDoor
open Go.RowKit

theorem gen_len {q : Int} {t : List UInt8} {n : Nm} (h : GenOk q t n) : t.length ≤ 64 ∧ MadeN n := by
  have m0 : MadeN [] := ⟨by decide, fun r hr => by cases hr⟩
  rcases h with ⟨_, h, rfl⟩ | ⟨_, h, rfl⟩ | ⟨_, h, rfl⟩ | ⟨_, rfl, h⟩
  · exact ⟨(show ∀ t ∈ genMail, t.length ≤ 64 by decide) t h, m0⟩
  · exact ⟨(show ∀ t ∈ genDns, t.length ≤ 64 by decide) t h, m0⟩
  · exact ⟨(show ∀ t ∈ genAddr, t.length ≤ 64 by decide) t h, m0⟩
  · exact ⟨by decide, h⟩
theorem bse_len {q : Int} {t : List UInt8} {n : Nm} (h : BseOk q t n) : t.length ≤ 64 ∧ MadeN n := by
  have m0 : MadeN [] := ⟨by decide, fun r hr => by cases hr⟩
  rcases h with ⟨_, h, rfl⟩ | ⟨_, h, rfl⟩ | ⟨_, h, rfl⟩ | ⟨_, rfl, h⟩
  · exact ⟨(show ∀ t ∈ bseMail, t.length ≤ 64 by decide) t h, m0⟩
  · exact ⟨(show ∀ t ∈ bseDns, t.length ≤ 64 by decide) t h, m0⟩
  · exact ⟨(show ∀ t ∈ bseAddr, t.length ≤ 64 by decide) t h, m0⟩
  · exact ⟨by decide, h⟩
/-- A change of one block that is of another type leaves a name as it was. -/
theorem own_apart {w w' : World} {B k n g : Nat} {e T : TypeId} {v : Value} {xs : List Value} {cs : Array Value} {f : Nat × Nat} (h : w.ownsRow B e k v n xs) (hc : w.heap[g]? = some (.cells cs T f)) (hT : T ≠ e) (hg : But g w w') : w'.ownsRow B e k v n xs := by
  refine World.ownsRow.kept h hg ?_
  rcases h.2 with ⟨hv, _⟩ | ⟨b, cap, cur, hv, _, hb, _⟩
  · exact .inl (by rw [hv]; rfl)
  · refine .inr (fun e1 => ?_)
    rw [hv] at e1
    simp [Value.ownBlock] at e1
    subst e1
    rw [hc] at hb
    simp at hb
    exact hT hb.2.1
theorem OwnN.apart {w w' : World} {B g : Nat} {T : TypeId} {v : Value} {n : Nm} {cs : Array Value} {f : Nat × Nat} (h : OwnN w B v n) (hc : w.heap[g]? = some (.cells cs T f)) (h1 : T ≠ 103) (h2 : T ≠ 101) (hg : But g w w') : OwnN w' B v n := by
  obtain ⟨vs, q1, q2, q3⟩ := h
  exact ⟨vs, q1, own_apart q2 hc h2 hg, fun i hi => own_apart (q3 i hi) hc h1 hg⟩
end Go.Proofs.YtflpajbcomhkpaaGreatDoor
namespace Go.Proofs.YtflpajbcomhkpaaGreatDoor
open Go.RowKit

end Go.Proofs.YtflpajbcomhkpaaGreatDoor
namespace Go.Proofs.YtflpajbcomhkpaaGreatDoor
open Go.RowKit

end Go.Proofs.YtflpajbcomhkpaaGreatDoor
namespace Go.Proofs.YtflpajbcomhkpaaGreatDoor
open Go.RowKit

/-- The numbers L can be read from the address a0 on. -/
def WLies (w : World) (a0 : Option Addr) (L : List Nat) : Prop :=
  L = [] ∨ ∃ b off, a0 = some ⟨b, off, none⟩ ∧ ∀ i, i < L.length → w.cell? ⟨b, off + i, none⟩ = some (.int .u32 ((L.getD i 0 : Nat) : Int))
theorem WLies.below {w w' : World} {a0 : Option Addr} {L : List Nat} (h : WLies w a0 L) (hb : Below w.heap.size w w') : WLies w' a0 L := by
  rcases h with h | ⟨b, off, h1, h2⟩
  · exact .inl h
  · refine .inr ⟨b, off, h1, fun i hi => ?_⟩
    rw [← h2 i hi]
    exact hb.cell (World.block_lt_of_cell? _ _ (h2 i hi))
theorem WLies.take {w : World} {a0 : Option Addr} {L : List Nat} (h : WLies w a0 L) (k : Nat) : WLies w a0 (L.take k) := by
  rcases h with h | ⟨b, off, h1, h2⟩
  · exact .inl (by rw [h]; simp)
  · refine .inr ⟨b, off, h1, fun i hi => ?_⟩
    rw [List.length_take] at hi
    rw [h2 i (by omega), List.getD_eq_getElem?_getD, List.getD_eq_getElem?_getD, List.getElem?_take_of_lt (by omega)]
theorem txt_len (a : List Nat) (h : ∀ v ∈ a, v ≤ 2147483647) : (txt a).length ≤ 11 * a.length := by
  by_cases h0 : a = []
  · subst h0; simp [txt]
  · have e := congrArg List.length (txt_dot a h0)
    have key : ∀ a : List Nat, (∀ v ∈ a, v ≤ 2147483647) → (cat fdot a).length ≤ 11 * a.length := by
      intro a
      induction a with
      | nil => intro _; simp [cat]
      | cons v a ih =>
        intro h
        have h1 := dec_len 10 v (Nat.lt_of_le_of_lt (h v (by simp)) (by decide)) (by omega)
        have h2 := ih (fun x hx => h x (by simp [hx]))
        simp only [cat, fdot, List.length_append, List.length_cons, List.length_nil]; omega
    have := key a h
    rw [List.length_append] at e
    simp at e; omega
end Go.Proofs.YtflpajbcomhkpaaGreatDoor
namespace Go.Proofs.YtflpajbcomhkpaaGreatDoor
open Go.RowKit

def oidVal (a : List Nat) : Value := .tuple #[.string (strOf (txt a)), .int .i64 0]
def OwnS (w : World) (B : Nat) (v : Value) (ss : List ByteArray) : Prop := w.ownsRow B 9 1 v ss.length (ss.map Value.string)
theorem strs_one (ss : List ByteArray) : ∀ v ∈ ss.map Value.string, v.oneCell' = true := by
  intro v hv; obtain ⟨b, _, rfl⟩ := List.mem_map.1 hv; rfl
def decS (n : Nat) : ByteArray := strOf (Lib.decDigits n)
theorem owns_two (w : World) (x y : ByteArray) : OwnS (w.alloc (.cells #[.string x, .string y] 9)) w.heap.size (.slice (some ⟨w.heap.size, 0, none⟩) 2 2) [x, y] :=
  ⟨rfl, .inr ⟨w.heap.size, 2, _, rfl, Nat.le_refl _, heap_alloc_new w _, Nat.le_refl _, by decide, rfl, rfl⟩⟩
theorem owns_form {w : World} {B : Nat} {v : Value} {ss : List ByteArray} (h : OwnS w B v ss) (h0 : ss ≠ []) :
    ∃ g cp, v = .slice (some ⟨g, 0, none⟩) ss.length cp ∧ g < w.heap.size ∧ ss.length ≤ cp ∧ ∀ (j : Nat) x, ss[j]? = some x → w.cell? ⟨g, 0 + j, none⟩ = some (.string x) := by
  rcases h.2 with ⟨_, h1⟩ | ⟨g, cap, cur, rfl, hB, hg, hn, _, hcs, htk⟩
  · exact absurd (List.eq_nil_of_length_eq_zero h1) h0
  · refine ⟨g, cap, rfl, (Array.getElem?_eq_some_iff.1 hg).1, hn, fun j x hx => ?_⟩
    have hj := (List.getElem?_eq_some_iff.1 hx).1
    rw [Nat.zero_add, cell_of_row w g j _ _ _ hg]
    have : (cur.toList.take (ss.length * 1))[j]? = some (.string ss[j]) := by rw [htk]; simp [hj]
    rw [List.getElem?_take_of_lt (by omega)] at this
    rw [List.getElem?_eq_getElem hj] at hx
    rw [← Option.some.inj hx]
    simpa using this
theorem strs_round {w wr w2 : World} {B : Nat} {v v' : Value} {D : List ByteArray} {y : ByteArray} {X : Obj} (hB : w.heap.size ≤ B) (hown : OwnS wr B v D) (hb : Below w.heap.size w wr)
    (hown2 : w2.ownsRow B 9 1 v' (D.length + 1) (D.map Value.string ++ [.string y])) (hgr2 : (wr.alloc X).grownBy w2 v.ownBlock) : OwnS w2 B v' (D ++ [y]) ∧ Below w.heap.size w w2 := by
  refine ⟨?_, ?_⟩
  · unfold OwnS
    rw [List.length_append, List.map_append]; exact hown2
  · exact (Below.alloc hb hb.size X).grown hgr2 (by simp; have := hb.size; omega) (fun k e => Nat.le_trans hB (World.ownsRow.lt hown k e).1)
theorem nums_yes {c : ByteArray} {N : List Nat} (hg : GoodN N) (hN : c.data.toList = cat e128 N) (w : World) (hs : c.size ≤ 1099511627) :
    Calls Tryz.prog 269 #[.string c] w fun e w' => (∃ g cap, e = .returned (.tuple #[.slice (some ⟨g, 0, none⟩) N.length cap, .bool true]) ∧ ILie w' g N ∧ N.length ≤ cap) ∧ Below w.heap.size w w' := by
  refine (nums_any c w hs).mono ?_
  rintro e w' ⟨h, hb⟩
  refine ⟨?_, hb⟩
  rcases h with ⟨M, g, cap, h1, h2, h3, h4, h5, h6⟩ | ⟨h1, _⟩
  · obtain rfl : M = N := code_inj e128_code e128_ne (h2.symm.trans hN)
    exact ⟨g, cap, h3, h4, h6⟩
  · exact absurd (dec_iff hg hN) (h1 _)
theorem nums_no {c : ByteArray} (h : ∀ a, ¬ Dec c.data.toList a) (w : World) (hs : c.size ≤ 1099511627) :
    Calls Tryz.prog 269 #[.string c] w fun e w' => (∃ v, e = .returned (.tuple #[v, .bool false])) ∧ Below w.heap.size w w' := by
  refine (nums_any c w hs).mono ?_
  rintro e w' ⟨h', hb⟩
  refine ⟨?_, hb⟩
  rcases h' with ⟨M, g, cap, h1, h2, _⟩ | ⟨_, h2⟩
  · exact absurd (dec_iff h1 h2) (h _)
  · exact h2
theorem itoaS (n : Nat) (w : World) (hn : n ≤ 9223372036854775807) (ht : Pow10 w) :
    Calls Tryz.prog 270 #[.int .i64 (n : Int)] w fun e w' => e = .returned (.string (decS n)) ∧ Below w.heap.size w w' := itoa_any n w hn ht

set_option maxRecDepth 100000 in
set_option maxHeartbeats 1000000 in
theorem decode_no {c : ByteArray} (h : ∀ a, ¬ Dec c.data.toList a) (w : World) (hs : c.size ≤ 1099511627) :
    Calls Tryz.prog 229 #[.string c] w fun e w' => e = .returned noVal ∧ Below w.heap.size w w' := by
  have HH := Lib.hid h
  clear h
  go_enter Tryz.func229, Tryz.ntmps229
  go_wp2_with (go_at_call 269; (with_reducible refine (nums_no HH.out _ hs).mono ?_); rintro e w1 ⟨⟨v, rfl⟩, hb1⟩; have HB1 := Lib.hid hb1; clear hb1)
  go_ret2
  exact ⟨rfl, HB1.out⟩

theorem join_dec (a : List Nat) : Lib.join ((a.map decS).map (·.data.toList)) [46] = txt a := by
  rw [← join_txt, List.map_map]
  congr 1

set_option maxRecDepth 100000 in
set_option maxHeartbeats 2000000 in
theorem decode_yes {c : ByteArray} {N : List Nat} (hg : GoodN N) (hN : c.data.toList = cat e128 N) (w : World) (hs : c.size ≤ 1099511627) (ht : Pow10 w) :
    Calls Tryz.prog 229 #[.string c] w fun e w' => e = .returned (oidVal (arcsN N)) ∧ Below w.heap.size w w' := by
  obtain ⟨i0, hi, hz0, hz1, hz2⟩ := info_parts strInfo
  have HG := Lib.hid hg
  have HN := Lib.hid hN
  have HT := Lib.hid ht
  obtain ⟨m, M, rfl⟩ : ∃ m M, N = m :: M := by
    cases N with
    | nil => exact absurd hg.1 (by simp)
    | cons m M => exact ⟨m, M, rfl⟩
  have hM : M.length ≤ 10 := by have := hg.2.1; simp at this; omega
  have hm : m ≤ 2147483727 := by simpa using hg.2.2.1
  have HMM := Lib.hid (show ∀ v ∈ M, v ≤ 2147483647 from by simpa using hg.2.2.2)
  obtain ⟨q, hq⟩ : ∃ q, q = m / 40 := ⟨_, rfl⟩
  have hqi : (m : Int) / 40 = (q : Int) := by omega
  obtain ⟨f, hf⟩ : ∃ f, f = min q 2 := ⟨_, rfl⟩
  have hfi : min (q : Int) 2 = (f : Int) := by omega
  have hfb : f ≤ 2 := by omega
  have hf40 : 40 * f ≤ m := by omega
  obtain ⟨z, hz⟩ : ∃ z, z = m - 40 * f := ⟨_, rfl⟩
  have hzi : (m : Int) - 40 * (f : Int) = (z : Int) := by omega
  have hzb : z ≤ 2147483727 := by omega
  have HAR := Lib.hid (show ∀ k, (arcsN (m :: M.take k)).map decS = [decS f, decS z] ++ (M.take k).map decS from fun k => by rw [hz, hf, hq]; simp [arcsN])
  clear hq hf hz hg hN ht hf40
  go_enter Tryz.func229, Tryz.ntmps229
  go_upto_region 5 with (go_at_call 269; (with_reducible refine (nums_yes HG.out HN.out _ hs).mono ?_); rintro e w1 ⟨⟨g, cap, rfl, hl, hcp⟩, hb1⟩; have HB1 := Lib.hid hb1; have HL := Lib.hid hl; have hc0 := hl.cell 0 (by simp); simp only [List.length_cons] at hcp; simp only [List.getD_cons_zero] at hc0; clear hb1 hl)
  have hwr2 : IntKind.i64.wrap (40 * (f : Int)) = 40 * (f : Int) := by rw [wrap_i64]; omega
  have hwr3 : IntKind.i64.wrap (z : Int) = (z : Int) := by rw [wrap_i64]; omega
  have HB1D := Lib.hid (show Below w.heap.size w w1.drew from Below.drew HB1.out)
  have HT1 := Lib.hid (HT.out.below HB1D.out)
  have BF := Lib.hid (show f ≤ 9223372036854775807 by omega)
  have BZ := Lib.hid (show z ≤ 9223372036854775807 by omega)
  go_region_with (first
    | (go_at_call 270; (with_reducible refine (itoaS f _ BF.out HT1.out).mono ?_); rintro e w2 ⟨rfl, hb2⟩; have HB2 := Lib.hid (below_next HB1D.out hb2); have HT2 := Lib.hid (HT.out.below HB2.out); have HL2 := Lib.hid (HL.out.below ((Below.refl _ w1).drew.trans hb2)); have hc2 := HL2.out.cell 0 (by simp); simp only [List.getD_cons_zero] at hc2; clear hb2)
    | (go_at_call 270; (with_reducible refine (itoaS z _ BZ.out HT2.out).mono ?_); rintro e w3 ⟨rfl, hb3⟩; have HB3 := Lib.hid (below_next HB2.out hb3); have HL3 := Lib.hid (HL2.out.below hb3); clear hb3))
  all_goals
    have HO3 := Lib.hid (owns_two w3 (decS f) (decS z))
    have HB4 := Lib.hid (belowNew w3 (.cells #[.string (decS f), .string (decS z)] 9))
    clear hwr2 hwr3 hc0 hc2
    go_wp2_with fail
  all_goals
    go_loopw [7, 35] (fun u i wr => ∃ (k : Nat) (D : List ByteArray), k ≤ M.length ∧ i = .int .i64 (k : Int) ∧ D = (arcsN (m :: M.take k)).map decS ∧ D.length = k + 2 ∧ OwnS wr w3.heap.size u D ∧ Below w3.heap.size w3 wr) (fun _ i _ => M.length - (intOf i).toNat)
    case atStart => exact ⟨0, _, by omega, rfl, rfl, by rw [HAR.out]; rfl, by rw [HAR.out]; exact HO3.out, HB4.out⟩
    case round =>
      obtain ⟨k, D, hk, rfl, hD, hDl, ho, hb⟩ := hrel
      have HB := Lib.hid hb
      have HO := Lib.hid ho
      have HD := Lib.hid hD
      clear hb ho hD
      by_cases hlt : k < M.length
      · have dk : decide ((k : Int) < (M.length : Int)) = true := by simp; omega
        have hcx : wr.cell? ⟨g, 1 + k, none⟩ = some (.int .i64 ((M.getD k 0 : Nat) : Int)) := by
          have h1 := (HL3.out.below HB.out).2 (k + 1) (by simp; omega)
          rw [Nat.add_comm 1 k, h1]
          simp
        have hxb : M.getD k 0 ≤ 2147483647 := by
          rw [List.getD_eq_getElem?_getD, List.getElem?_eq_getElem hlt]
          exact HMM.out _ (by simp)
        have HN2 := Lib.hid (show D ++ [decS (M.getD k 0)] = (arcsN (m :: M.take (k + 1))).map decS by
          rw [HD.out, HAR.out, HAR.out, List.append_assoc, List.take_add_one, List.getD_eq_getElem?_getD, List.getElem?_eq_getElem hlt, List.map_append]
          rfl)
        generalize M.getD k 0 = x at hcx hxb HN2
        have BX := Lib.hid (show x ≤ 9223372036854775807 by omega)
        have HTR := Lib.hid (HT.out.below (below_next HB3.out HB.out))
        go_wp2_with (first
          | (go_at_call 270; (with_reducible refine (itoaS x _ BX.out HTR.out).mono ?_); rintro e w5 ⟨rfl, hb5⟩; have HO5 := Lib.hid (own_below HO.out hb5); have HB5 := Lib.hid (below_next HB.out hb5); clear hb5)
          | (at_builtin; (refine wpList_append_own _ rfl (.tmp 39) (.tmp 42) 51 rfl w3.heap.size 9 i0 (.string ⟨#[]⟩) 1 16 Tryz.underlying51 hi hz0 hz1 hz2 rfl (by decide) _ D.length (D.map Value.string) rfl (HO5.out.alloc _) ⟨w5.heap.size, 0, none⟩ 1 1 [.string (decS x)] rfl rfl (news_row w5 #[.string (decS x)] 9) (strs_one [decS x]) (by unfold maxLen; omega) (by omega) (by have := HB5.out.size; simp; omega) ?_); intro v' w6 hown2 hgr2 _; obtain ⟨P1, P2⟩ := strs_round (Nat.le_refl _) HO5.out HB5.out hown2 hgr2; have HP1 := Lib.hid P1; have HP2 := Lib.hid P2; clear hown2 hgr2 P1 P2))
        all_goals
          go_roundw
          case rel => exact ⟨k + 1, D ++ [decS x], by omega, by go_num, HN2.out, by simp; omega, HP1.out, HP2.out⟩
          case measure => simp [intOf]; omega
      · obtain rfl : k = M.length := by omega
        have dk : decide ((M.length : Int) < (M.length : Int)) = false := by simp
        obtain ⟨h, cp, rfl, hh1, hh2, hh3⟩ := owns_form HO.out (fun e => by rw [e] at hDl; simp at hDl)
        have HDD := Lib.hid (show D = (arcsN (m :: M)).map decS by rw [HD.out, List.take_of_length_le (Nat.le_refl _)])
        have HJ := Lib.hid (show Lib.join (D.map (·.data.toList)) [46] = txt (arcsN (m :: M)) by rw [HDD.out, join_dec])
        have hjl : (Lib.join (D.map (·.data.toList)) [46]).length ≤ 140737488355328 := by
          rw [HJ.out]
          refine Nat.le_trans (txt_len _ (goodN_arcs HG.out).1.2.2.1) ?_
          have := (goodN_arcs HG.out).1.2.1
          omega
        have HJL := Lib.hid hjl
        have hDb : D.length ≤ 12 := by omega
        have HH3 := Lib.hid hh3
        clear hjl hh3 hlt hDl hk
        go_wp2_with (go_at_call 166; (with_reducible refine (join_any h 0 cp D ⟨#[46]⟩ _ HH3.out hh1 (by omega) hh2 HJL.out).mono ?_); rintro e w5 ⟨rfl, hb5⟩; have HB5 := Lib.hid (below_next HB.out hb5); clear hb5)
        go_ret2
        refine ⟨?_, below_next HB3.out HB5.out⟩
        show _ = Ending.returned (oidVal (arcsN (m :: M)))
        rw [oidVal, ← HJ.out]
        rfl
end Go.Proofs.YtflpajbcomhkpaaGreatDoor
namespace Go.Proofs.YtflpajbcomhkpaaGreatDoor
open Go.RowKit

/-- What Decode and its definition answer. -/
def Decd (c : List UInt8) (e : Ending) : Prop := (∃ a, Dec c a ∧ e = .returned (oidVal a)) ∨ ((∀ a, ¬ Dec c a) ∧ e = .returned noVal)
theorem decode_any (c : ByteArray) (w : World) (hs : c.size ≤ 1099511627) (ht : Pow10 w) :
    Calls Tryz.prog 229 #[.string c] w fun e w' => Decd c.data.toList e ∧ Below w.heap.size w w' := by
  by_cases h : ∃ a, Dec c.data.toList a
  · obtain ⟨a, h1, h2⟩ := h
    have hg := good_nums h1
    refine (decode_yes hg.1 h2 w hs ht).mono ?_
    rintro e w' ⟨rfl, hb⟩
    exact ⟨.inl ⟨a, ⟨h1, h2⟩, by rw [hg.2]⟩, hb⟩
  · have h' : ∀ a, ¬ Dec c.data.toList a := fun a k => h ⟨a, k⟩
    refine (decode_no h' w hs).mono ?_
    rintro e w' ⟨rfl, hb⟩
    exact ⟨.inr ⟨h', rfl⟩, hb⟩
end Go.Proofs.YtflpajbcomhkpaaGreatDoor
namespace Go.Proofs.YtflpajbcomhkpaaGreatDoor
open Go.RowKit

/-- The object identifier that contents say. -/
noncomputable def oidD (c : ByteArray) : Option ByteArray := @dite _ (∃ a, Dec c.data.toList a) (Classical.propDecidable _) (fun h => some (strOf (txt h.choose))) (fun _ => none)
theorem oidD_yes {c : ByteArray} {a : List Nat} (h : Dec c.data.toList a) : oidD c = some (strOf (txt a)) := by
  have hx : ∃ a, Dec c.data.toList a := ⟨a, h⟩
  unfold oidD
  rw [dif_pos hx, dec_one hx.choose_spec h]
theorem oidD_no {c : ByteArray} (h : ∀ a, ¬ Dec c.data.toList a) : oidD c = none := by
  unfold oidD
  rw [dif_neg (fun ⟨a, k⟩ => h a k)]
theorem oidD_decd {c : ByteArray} {e : Ending} (h : Decd c.data.toList e) : (∃ id, oidD c = some id ∧ e = .returned (.tuple #[.string id, .int .i64 0])) ∨ (oidD c = none ∧ e = .returned (.tuple #[.string ⟨#[]⟩, .int .i64 11])) := by
  rcases h with ⟨a, h1, rfl⟩ | ⟨h1, rfl⟩
  · exact .inl ⟨_, oidD_yes h1, rfl⟩
  · exact .inr ⟨oidD_no h1, rfl⟩
def strTag (t : Nat) : Bool := t == 12 || t == 19 || t == 22
/-- What the elements of an attribute say: an error and the attribute. -/
noncomputable def decL : List El → Nat × At
  | [] => (3, noAt)
  | x :: r => if x.1 ≠ 6 then (5, noAt) else match oidD x.2.1 with
    | none => (11, noAt)
    | some id => match r with
      | [] => (3, noAt)
      | y :: q => if strTag y.1 = false then (5, noAt) else if q ≠ [] then (4, noAt) else (0, (id, (y.1 : Int), y.2.1))
noncomputable def decA (e : El) : Nat × At := if e.1 ≠ 48 then (5, noAt) else if (lst e.2.1).2 ≠ 0 then ((lst e.2.1).2, noAt) else decL (lst e.2.1).1
/-- The attributes of elements, or the first error. -/
noncomputable def decAs : List El → Nat × List At
  | [] => (0, [])
  | e :: r => if (decA e).1 ≠ 0 then ((decA e).1, []) else if (decAs r).1 ≠ 0 then ((decAs r).1, []) else (0, (decA e).2 :: (decAs r).2)
noncomputable def ascB (l : List El) : Bool := @decide (ascP l l.length) (Classical.propDecidable _)
noncomputable def decR (e : El) : Nat × List At := if e.1 ≠ 49 then (5, []) else if (lst e.2.1).2 ≠ 0 then ((lst e.2.1).2, []) else if ascB (lst e.2.1).1 = false then (9, []) else decAs (lst e.2.1).1
noncomputable def decRs : List El → Nat × Nm
  | [] => (0, [])
  | e :: r => if (decR e).1 ≠ 0 then ((decR e).1, []) else if (decRs r).1 ≠ 0 then ((decRs r).1, []) else (0, (decR e).2 :: (decRs r).2)
noncomputable def decN0 (b : ByteArray) : Nat × Nm :=
  if oneErr b ≠ 0 then (oneErr b, []) else if rdTag b ≠ 48 then (5, []) else if (lst (rdContent b)).2 ≠ 0 then ((lst (rdContent b)).2, []) else decRs (lst (rdContent b)).1
noncomputable def decN (b : ByteArray) : Nat × Nm := if (decN0 b).1 ≠ 0 then ((decN0 b).1, []) else if chkN (decN0 b).2 ≠ 0 then (chkN (decN0 b).2, []) else (0, (decN0 b).2)

/-! ### slices.Contains -/
set_option maxRecDepth 100000 in
set_option maxHeartbeats 1000000 in
theorem cont_any (b o c : Nat) (zs : List Nat) (t n : Nat) (hn : n = zs.length) (hn3 : n ≤ 1000) (w : World) (h : ∀ i, i < zs.length → w.cell? ⟨b, o + i, none⟩ = some (.int .i64 ((zs.getD i 0 : Nat) : Int))) :
    Calls Tryz.prog 228 #[.slice (some ⟨b, o, none⟩) n c, .int .i64 (t : Int)] w fun e w' => e = .returned (.bool (decide (t ∈ zs))) ∧ Below w.heap.size w w' := by
  have HI := Lib.hid (show Calls Tryz.prog 268 #[.slice (some ⟨b, o, none⟩) n c, .int .i64 (t : Int)] w fun e w' => (∃ k : Int, e = .returned (.int .i64 k) ∧ decide (0 ≤ k) = decide (t ∈ zs)) ∧ Below w.heap.size w w' from by
    have HC := Lib.hid h
    have HN := Lib.hid hn
    clear h hn
    go_enter Tryz.func268, Tryz.ntmps268
    go_wp2_with fail
    go_loopw [8] (fun i wr => ∃ k : Nat, k ≤ n ∧ i = .int .i64 (k : Int) ∧ t ∉ zs.take k ∧ Below w.heap.size w wr) (fun i _ => n - (intOf i).toNat)
    case atStart => exact ⟨0, Nat.zero_le _, rfl, by simp, Below.refl _ _⟩
    case round =>
      obtain ⟨k, hk, rfl, hm, hb⟩ := hrel
      have HM := Lib.hid hm
      have HB := Lib.hid hb
      clear hm hb
      by_cases hlt : k < n
      · have hd : decide ((k : Int) < (n : Int)) = true := by simp; omega
        have hki : (k : Int) < (n : Int) := by omega
        have c0 := HC.out k (by rw [← HN.out]; exact hlt)
        have c1 := (HB.out.cell (p := ⟨b, o + k, none⟩) (block_lt c0)).trans c0
        have hmem : zs.getD k 0 ∈ zs := by rw [List.getD_eq_getElem?_getD, List.getElem?_eq_getElem (by rw [← HN.out]; exact hlt)]; exact List.getElem_mem _
        have htk := takeD zs k (by rw [← HN.out]; exact hlt) 0
        generalize zs.getD k 0 = z at c1 hmem htk
        clear c0
        by_cases hz : t = z
        · subst hz
          have hq : ((t : Int) == (t : Int)) = true := by simp
          have HF := Lib.hid hmem
          clear htk hmem
          go_wp2_with fail
          try go_region
          all_goals (try go_wp2_with fail)
          go_ret
          exact ⟨⟨_, rfl, by rw [decide_eq_true HF.out]; simp⟩, by first | exact HB.out | exact HB.out.trans ((Below.refl wr.heap.size wr).drew.mono HB.out.size)⟩
        · have hq : ((t : Int) == (z : Int)) = false := by simp; omega
          have HF := Lib.hid (show t ∉ zs.take (k + 1) by
            rw [htk]
            intro hm
            rcases List.mem_append.1 hm with hm | hm
            · exact HM.out hm
            · exact hz (List.mem_singleton.1 hm))
          clear htk hmem hz
          go_wp2_with fail
          try go_region
          all_goals (try go_wp2_with fail)
          go_roundw
          case rel => exact ⟨k + 1, by omega, by go_num, HF.out, by first | exact HB.out | exact HB.out.trans ((Below.refl wr.heap.size wr).drew.mono HB.out.size)⟩
          case measure => simp [intOf]; omega
      · have hd : decide ((k : Int) < (n : Int)) = false := by simp; omega
        have HF := Lib.hid (show t ∉ zs by have := HM.out; rwa [List.take_of_length_le (by rw [← HN.out]; omega)] at this)
        go_wp2_with fail
        go_ret
        exact ⟨⟨_, rfl, by rw [decide_eq_false HF.out]; rfl⟩, HB.out⟩)
  clear h hn
  go_enter Tryz.func228, Tryz.ntmps228
  go_wp2_with (go_at_call 268; (with_reducible refine HI.out.mono ?_); rintro e w1 ⟨⟨k, rfl, hk⟩, hb⟩; have HK := Lib.hid hk; have HB := Lib.hid hb; clear hb hk)
  go_ret
  exact ⟨by rw [← HK.out]; rfl, HB.out⟩
theorem slice_tail2 (a0 : Option Addr) (n c : Nat) (hn : 1 ≤ n) (hc : n ≤ c) (W : World) : ∃ a1, (Instr.slice 41 (.slice a0 n c) (some (.int .i64 1)) none none).run Tryz.prog W = .ok (.slice (if c - 1 = 0 then a0 else a0.map fun x => x.add 3) (n - 1) (c - 1)) W ∧ a1 = a0 := by
  obtain ⟨i0, hi, hz0, hz1, hz2⟩ := info_parts elInfo
  refine ⟨a0, ?_, rfl⟩
  simp [Instr.slice, run_underlying Tryz.underlying41, Instr.sliceBounds, Instr.sliceBound, asIntOf, Result.andThen]
  rw [if_pos (by omega)]
  by_cases h1 : c = 1
  · subst h1; simp
  · simp [h1, show ¬ c - 1 = 0 by omega]
end Go.Proofs.YtflpajbcomhkpaaGreatDoor
namespace Go.Proofs.YtflpajbcomhkpaaGreatDoor
open Go.RowKit

theorem elRes0 {fn : Func} {p u : Tmp} (h : fn.results = #[.cell p 23, .tmp u]) (tmps : Array Value) (w : World) (g : Nat) (x y z : Value)
    (hp : tmps.getD p undef = .pointer (some ⟨g, 0, none⟩)) (hg : w.heap[g]? = some (.cells #[x, y, z] 23 (0, 0))) :
    (results fn tmps).run Tryz.prog w = .ok (.tuple #[.agg #[x, y, z], tmps.getD u undef]) w :=
  results_cell_row2 h tmps w g 23 #[x, y, z] (0, 0) _ hp hg Tryz.underlying23 rfl (by kernel_rfl)
/-- The elements l lie at an address. -/
def ElAt (w : World) (a : Option Addr) (l : List El) : Prop := l = [] ∨ ∃ b o, a = some ⟨b, o, none⟩ ∧ ∀ k, k < l.length → w.cell? ⟨b, o + k * 3, none⟩ = some (.int .i64 (((l.getD k (0, ⟨#[]⟩, ⟨#[]⟩)).1 : Nat) : Int)) ∧ w.cell? ⟨b, o + k * 3 + 1, none⟩ = some (.string (l.getD k (0, ⟨#[]⟩, ⟨#[]⟩)).2.1) ∧ w.cell? ⟨b, o + k * 3 + 2, none⟩ = some (.string (l.getD k (0, ⟨#[]⟩, ⟨#[]⟩)).2.2)
theorem ElAt.below {w w' : World} {a : Option Addr} {l : List El} (h : ElAt w a l) (hb : Below w.heap.size w w') : ElAt w' a l := by
  rcases h with h | ⟨b, o, h1, h2⟩
  · exact .inl h
  · refine .inr ⟨b, o, h1, fun i hi => ?_⟩
    obtain ⟨c0, c1, c2⟩ := h2 i hi
    exact ⟨(hb.cell (block_lt c0)).trans c0, (hb.cell (block_lt c1)).trans c1, (hb.cell (block_lt c2)).trans c2⟩
theorem ElAt.of {w : World} {B : Nat} {v : Value} {l : List El} (h : OwnE w B v l) : ∃ a c, v = .slice a l.length c ∧ l.length ≤ c ∧ ElAt w a l ∧ (∀ x, a = some x → l ≠ [] → B ≤ x.block ∧ x.block < w.heap.size) := by
  obtain ⟨a, c, hv, hA⟩ := EAt.of h
  have h' := h
  rcases h.2 with ⟨hv', h0⟩ | ⟨g, cap, cur, hv', hB, hg, hn, _⟩
  · rw [hv] at hv'
    obtain ⟨_, _, rfl⟩ : a = none ∧ l.length = 0 ∧ c = 0 := by simpa using hv'
    have hl : l = [] := List.eq_nil_of_length_eq_zero h0
    exact ⟨a, 0, hv, by omega, .inl hl, fun x _ hne => absurd hl hne⟩
  · rw [hv] at hv'
    obtain ⟨rfl, rfl⟩ : a = some ⟨g, 0, none⟩ ∧ c = cap := by simpa using hv'
    refine ⟨_, c, hv, hn, ?_, fun x hx _ => by obtain rfl := Option.some.inj hx; exact ⟨hB, (Array.getElem?_eq_some_iff.1 hg).1⟩⟩
    refine .inr ⟨g, 0, rfl, fun k hk => ?_⟩
    obtain ⟨g', e, hc⟩ := hA k hk
    obtain rfl : g = g' := by simpa using e
    rw [List.getD_eq_getElem?_getD, List.getElem?_eq_getElem hk, Nat.zero_add]
    exact ⟨hc 0 (by omega), hc 1 (by omega), hc 2 (by omega)⟩
/-! ### The closure next -/
set_option maxRecDepth 100000 in
set_option maxHeartbeats 1000000 in
theorem nxt_empty (gl : Nat) (a v : Option Addr) (c n m : Nat) (w : World) (h : w.heap[gl]? = some (.cells #[.slice a 0 c] 41 (0, 0))) :
    Calls Tryz.prog 227 #[.slice v n m, .pointer (some ⟨gl, 0, none⟩)] w fun e w' => e = .returned (.tuple #[noEl, .int .i64 3]) ∧ Below w.heap.size w w' := by
  obtain ⟨c0, f0, l0⟩ := one_facts h
  have hne : ¬ gl = w.heap.size := by omega
  have c1 := ((belowNew w (.cells #[.int .i64 0, .string ⟨#[]⟩, .string ⟨#[]⟩] 23)).cell (p := ⟨gl, 0, none⟩) l0).trans c0
  clear h
  go_enter Tryz.func227, Tryz.ntmps227
  go_wp2_with fail
  exact bodyPost_ret (elRes0 rfl _ _ _ _ _ _ rfl (heap_alloc_new w _)) rfl ⟨rfl, belowNew w _⟩
/-- The world with the two blocks that next makes. -/
theorem nxt_world (w : World) (x : El) : ∃ V, V = (w.alloc (.cells #[.int .i64 0, .string ⟨#[]⟩, .string ⟨#[]⟩] 23)).alloc (.cells #[.int .i64 ((x.1 : Nat) : Int), .string x.2.1, .string x.2.2] 23) ∧ Below w.heap.size w V ∧
    V.heap[w.heap.size]? = some (.cells #[.int .i64 0, .string ⟨#[]⟩, .string ⟨#[]⟩] 23 (0, 0)) ∧ V.heap[w.heap.size + 1]? = some (.cells #[.int .i64 ((x.1 : Nat) : Int), .string x.2.1, .string x.2.2] 23 (0, 0)) := by
  refine ⟨_, rfl, belowTwo w _ _, ((belowNew _ _).block _ (by simp)).trans (heap_alloc_new w _), ?_⟩
  have := heap_alloc_new (w.alloc (.cells #[.int .i64 0, .string ⟨#[]⟩, .string ⟨#[]⟩] 23)) (.cells #[.int .i64 ((x.1 : Nat) : Int), .string x.2.1, .string x.2.2] 23)
  simpa using this
set_option maxRecDepth 100000 in
set_option maxHeartbeats 2000000 in
theorem nxt_bad (gl b o c n tb tq m mc : Nat) (x : El) (zs : List Nat) (w : World) (h : w.heap[gl]? = some (.cells #[.slice (some ⟨b, o, none⟩) n c] 41 (0, 0))) (hn : 1 ≤ n) (hnz : n ≤ 1099511627776)
    (x0 : w.cell? ⟨b, o, none⟩ = some (.int .i64 ((x.1 : Nat) : Int))) (x1 : w.cell? ⟨b, o + 1, none⟩ = some (.string x.2.1)) (x2 : w.cell? ⟨b, o + 2, none⟩ = some (.string x.2.2))
    (hm : m = zs.length) (hm3 : m ≤ 1000) (ht : ∀ i, i < zs.length → w.cell? ⟨tb, tq + i, none⟩ = some (.int .i64 ((zs.getD i 0 : Nat) : Int))) (hno : x.1 ∉ zs) :
    Calls Tryz.prog 227 #[.slice (some ⟨tb, tq, none⟩) m mc, .pointer (some ⟨gl, 0, none⟩)] w fun e w' => e = .returned (.tuple #[noEl, .int .i64 5]) ∧ Below w.heap.size w w' := by
  obtain ⟨c0, f0, l0⟩ := one_facts h
  obtain ⟨V, hV, hb, q0, q1⟩ := nxt_world w x
  obtain ⟨v0, v1, v2, _, _, _, vl⟩ := at_facts q1
  obtain ⟨xt, xc, xr⟩ := x
  simp only at v0 v1 v2
  have hVe := hV.symm
  have hg1 : ¬ gl = w.heap.size := by omega
  have hg2 : ¬ w.heap.size = gl := by omega
  have hg3 : ¬ gl = w.heap.size + 1 := by omega
  have hg4 : ¬ w.heap.size + 1 = gl := by omega
  have bw := belowNew w (.cells #[.int .i64 0, .string ⟨#[]⟩, .string ⟨#[]⟩] 23)
  have d0 := (bw.cell (p := ⟨gl, 0, none⟩) l0).trans c0
  have y0 := (bw.cell (p := ⟨b, o, none⟩) (block_lt x0)).trans x0
  have y1 := (bw.cell (p := ⟨b, o + 1, none⟩) (block_lt x0)).trans x1
  have y2 := (bw.cell (p := ⟨b, o + 2, none⟩) (block_lt x0)).trans x2
  have hne : ((n : Int) == 0) = false := by simp; omega
  have hni : (0 : Int) < (n : Int) := by omega
  have HCT := Lib.hid (cont_any tb tq mc zs xt m hm hm3 V (fun i hi => (hb.cell (p := ⟨tb, tq + i, none⟩) (block_lt (ht i hi))).trans (ht i hi)))
  rw [decide_eq_false hno] at HCT
  have HB := Lib.hid hb
  have HQ0 := Lib.hid q0
  have HVE := Lib.hid hVe
  simp only at hVe
  clear h c0 f0 l0 x0 x1 x2 ht hno q0 q1 hb bw hV hm
  go_enter Tryz.func227, Tryz.ntmps227
  go_wp2_with (go_at_call 228; (with_reducible refine HCT.out.mono ?_); rintro e w1 ⟨rfl, hb1⟩; have hq := (hb1.block w.heap.size (Array.getElem?_eq_some_iff.1 HQ0.out).1).trans HQ0.out; have HQ1 := Lib.hid hq; obtain ⟨r0, r1, r2, g0, g1, g2, hlt⟩ := at_facts hq; have HB1 := Lib.hid (below_next HB.out hb1); clear hb1 hq)
  exact bodyPost_ret (elRes0 rfl _ _ _ _ _ _ rfl (at_set HQ1.out)) rfl ⟨rfl, at_below HB1.out (Nat.le_refl _)⟩
set_option maxRecDepth 100000 in
set_option maxHeartbeats 2000000 in
theorem nxt_ok (gl b o c n tb tq m mc : Nat) (x : El) (zs : List Nat) (w : World) (h : w.heap[gl]? = some (.cells #[.slice (some ⟨b, o, none⟩) n c] 41 (0, 0))) (hn : 1 ≤ n) (hnc : n ≤ c) (hnz : n ≤ 1099511627776)
    (x0 : w.cell? ⟨b, o, none⟩ = some (.int .i64 ((x.1 : Nat) : Int))) (x1 : w.cell? ⟨b, o + 1, none⟩ = some (.string x.2.1)) (x2 : w.cell? ⟨b, o + 2, none⟩ = some (.string x.2.2))
    (hm : m = zs.length) (hm3 : m ≤ 1000) (ht : ∀ i, i < zs.length → w.cell? ⟨tb, tq + i, none⟩ = some (.int .i64 ((zs.getD i 0 : Nat) : Int))) (hyes : x.1 ∈ zs) :
    Calls Tryz.prog 227 #[.slice (some ⟨tb, tq, none⟩) m mc, .pointer (some ⟨gl, 0, none⟩)] w fun e w' => e = .returned (.tuple #[elV x.1 x.2.1 x.2.2, .int .i64 0]) ∧ (∃ a1, w'.heap[gl]? = some (.cells #[.slice a1 (n - 1) (c - 1)] 41 (0, 0)) ∧ (1 < n → a1 = some ⟨b, o + 3, none⟩)) ∧ But gl w w' := by
  obtain ⟨c0, f0, l0⟩ := one_facts h
  obtain ⟨V, hV, hb, q0, q1⟩ := nxt_world w x
  obtain ⟨v0, v1, v2, _, _, _, vl⟩ := at_facts q1
  obtain ⟨xt, xc, xr⟩ := x
  simp only at v0 v1 v2
  have hVe := hV.symm
  have hg1 : ¬ gl = w.heap.size := by omega
  have hg2 : ¬ w.heap.size = gl := by omega
  have hg3 : ¬ gl = w.heap.size + 1 := by omega
  have hg4 : ¬ w.heap.size + 1 = gl := by omega
  have bw := belowNew w (.cells #[.int .i64 0, .string ⟨#[]⟩, .string ⟨#[]⟩] 23)
  have d0 := (bw.cell (p := ⟨gl, 0, none⟩) l0).trans c0
  have y0 := (bw.cell (p := ⟨b, o, none⟩) (block_lt x0)).trans x0
  have y1 := (bw.cell (p := ⟨b, o + 1, none⟩) (block_lt x0)).trans x1
  have y2 := (bw.cell (p := ⟨b, o + 2, none⟩) (block_lt x0)).trans x2
  have hne : ((n : Int) == 0) = false := by simp; omega
  have hni : (0 : Int) < (n : Int) := by omega
  have HCT := Lib.hid (cont_any tb tq mc zs xt m hm hm3 V (fun i hi => (hb.cell (p := ⟨tb, tq + i, none⟩) (block_lt (ht i hi))).trans (ht i hi)))
  rw [decide_eq_true hyes] at HCT
  obtain ⟨a1, hsl, ha1⟩ : ∃ a1, (∀ W, (Instr.slice 41 (.slice (some ⟨b, o, none⟩) n c) (some (.int .i64 1)) none none).run Tryz.prog W = .ok (.slice a1 (n - 1) (c - 1)) W) ∧ (1 < n → a1 = some ⟨b, o + 3, none⟩) := by
    refine ⟨if c - 1 = 0 then some ⟨b, o, none⟩ else some ⟨b, o + 3, none⟩, fun W => ?_, fun h => if_neg (by omega)⟩
    obtain ⟨a1, e, _⟩ := slice_tail2 (some ⟨b, o, none⟩) n c hn hnc W
    rw [e]
    rfl
  have HA1 := Lib.hid ha1
  obtain ⟨n', hn'⟩ : ∃ n', n' = n - 1 := ⟨_, rfl⟩
  obtain ⟨c', hc'⟩ : ∃ c', c' = c - 1 := ⟨_, rfl⟩
  rw [← hn', ← hc'] at hsl ⊢
  have HB := Lib.hid hb
  have HQ0 := Lib.hid q0
  have HQ5 := Lib.hid q1
  have HH := Lib.hid h
  simp only at hVe
  clear h c0 f0 x0 x1 x2 ht hyes q0 q1 hb bw hV hm ha1 hn' hc'
  go_enter Tryz.func227, Tryz.ntmps227
  go_wp2_with (go_at_call 228; (with_reducible refine HCT.out.mono ?_); rintro e w1 ⟨rfl, hb1⟩; have hq := (hb1.block w.heap.size (Array.getElem?_eq_some_iff.1 HQ0.out).1).trans HQ0.out; have HQ1 := Lib.hid hq; obtain ⟨r0, r1, r2, g0, g1, g2, hlt⟩ := at_facts hq; have hq5 := (hb1.block (w.heap.size + 1) (Array.getElem?_eq_some_iff.1 HQ5.out).1).trans HQ5.out; obtain ⟨s0, s1, s2, _, _, _, hlt5⟩ := at_facts hq5; have HB1 := Lib.hid (below_next HB.out hb1); have hqg := (HB1.out.block gl l0).trans HH.out; have HQG := Lib.hid hqg; obtain ⟨t0, t1, hltg⟩ := one_facts hqg; clear hb1 hq hqg hq5)
  exact bodyPost_ret (elRes0 rfl _ _ _ _ _ _ rfl (at_set (((But.set gl 0 w1 _).block w.heap.size hlt (by simp; omega)).trans HQ1.out))) rfl
    ⟨rfl, ⟨a1, el_other (one_set HQG.out) hg2, HA1.out⟩, ((((But.of HB1.out).next (But.set gl 0 w1 _)).fresh (But.set w.heap.size 0 _ _) (Nat.le_refl _)).fresh (But.set w.heap.size 1 _ _) (Nat.le_refl _)).fresh (But.set w.heap.size 2 _ _) (Nat.le_refl _)⟩
end Go.Proofs.YtflpajbcomhkpaaGreatDoor
