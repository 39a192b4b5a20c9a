/-
  The contract of Encode: the element of a name, or the error of Check.
  The contract of the reference's Dec: the decimal digits of a number.
  The contract of the law's function id: the text of a good list of numbers that is made of the given ones.
-/
import Derived.Test.YtfpfgdbfigdooaaGreatDoorEay
import Derived.Test.YtfpfgdbfigdooaaGreatDoorEaa
import Derived.Test.YtfpfgdbfigdooaaGreatDoorEaq
import Derived.Lib.ItoaLen
namespace Go.Proofs.YtfpfgdbfigdooaaGreatDoor
open Go.RowKit

theorem chkRs_zero : ∀ {n : Nm}, chkRs n = 0 → ∀ i, i < n.length → chkR (n.getD i []) = 0
  | [], _, i, hi => absurd hi (Nat.not_lt_zero _)
  | r :: n, h, i, hi => by
    unfold chkRs at h
    by_cases hr : chkR r = 0
    · rw [if_pos hr] at h
      cases i with
      | zero => exact hr
      | succ i => exact chkRs_zero h i (by simpa using hi)
    · rw [if_neg hr] at h
      exact absurd h hr
theorem chkN_zero {n : Nm} (h : chkN n = 0) : n.length ≤ 8 ∧ ∀ i, i < n.length → chkR (n.getD i []) = 0 := by
  unfold chkN at h
  split at h
  · cases h
  · exact ⟨by omega, chkRs_zero h⟩
theorem chkR_zero {r : List At} (h : chkR r = 0) : 1 ≤ r.length ∧ r.length ≤ 4 ∧ chkL [] r = 0 := by
  unfold chkR at h
  split at h
  · cases h
  · split at h
    · cases h
    · exact ⟨by omega, by omega, h⟩
/-- What Encode answers. -/
noncomputable def encV (n : Nm) : ByteArray := if chkN n = 0 then encN n else ⟨#[]⟩
theorem encn_cat (n : Nm) (m : Nat) (h : n.length = m) (hm : m ≤ 1000) : (cat_t (n.map encR)).length ≤ 1099511627776 := by
  have := cat_len (n.map encR) (fun s hs => by obtain ⟨a, _, rfl⟩ := List.mem_map.1 hs; exact encR_size a)
  rw [List.length_map] at this
  omega

set_option maxRecDepth 100000 in
set_option maxHeartbeats 4000000 in
theorem encode_core (a0 : Option Addr) (c m : Nat) (n : Nm) (w : World) (h : RLies w a0 n) (hn : m = n.length) (hs : SmallN n) (hT : Tab w) :
    Calls Tryz.prog 14 #[.agg #[.slice a0 m c]] w fun e w' => e = .returned (.tuple #[.string (encV n), .int .i64 ((chkN n : Nat) : Int)]) ∧ Below w.heap.size w w' := by
  obtain ⟨W0, hW0⟩ : ∃ W0, W0 = w.alloc (.cells #[.slice a0 m c] 24) := ⟨_, rfl⟩
  have hwr : w.alloc (.cells #[.slice a0 m c] 24) = W0 := hW0.symm
  have hb0 : Below w.heap.size w W0 := by rw [hW0]; exact belowNew w _
  have hq0 : W0.heap[w.heap.size]? = some (.cells #[.slice a0 m c] 24 (0, 0)) := by rw [hW0]; exact heap_alloc_new w _
  have hz0 : W0.heap.size = w.heap.size + 1 := by rw [hW0]; simp
  have HC := Lib.hid (chk_core a0 c m n W0 (h.below hb0) hn hs (hT.below hb0))
  obtain ⟨E, hE⟩ : ∃ E, E = chkN n := ⟨_, rfl⟩
  obtain ⟨V, hV⟩ : ∃ V, V = encV n := ⟨_, rfl⟩
  rw [← hE] at HC ⊢
  rw [← hV]
  have HB0 := Lib.hid hb0
  have HQ0 := Lib.hid hq0
  obtain ⟨c0, f0, l0⟩ := one_facts hq0
  by_cases hz : E = 0
  · have hch := chkN_zero (hE.symm.trans hz)
    have HV := Lib.hid (show V = wrapStr 48 (cat_t (n.map encR)) by rw [hV]; unfold encV; rw [← hE, if_pos hz]; rfl)
    have H1 := Lib.hid h
    have HN := Lib.hid hn
    have HS := Lib.hid hs
    have HCH := Lib.hid hch.2
    have hm8 : m ≤ 8 := by rw [hn]; exact hch.1
    have hmk := strs_make m (by omega)
    have HDW := Lib.hid (fun g W (hv : Reads W (.slice (some ⟨g, 0, none⟩) m m) (n.map encR)) => dwrap_any 48 _ m m (n.map encR) W hv (by rw [List.length_map, ← hn]; omega))
    subst hz
    clear hE hV hn hs hch h hT hW0 hb0 hq0
    go_enter Tryz.func14, Tryz.ntmps14
    go_wp2_with (go_at_call 16; (with_reducible refine HC.out.mono ?_); rintro e w1 ⟨rfl, hb1⟩; have HB1 := Lib.hid (below_next HB0.out hb1); have hq1 := (hb1.block w.heap.size l0).trans HQ0.out; have HQ1 := Lib.hid hq1; obtain ⟨c1, f1, l1⟩ := one_facts hq1; clear hb1 hq1)
    obtain ⟨W2, hW2⟩ : ∃ W2, W2 = w1.alloc (.cells (rowT m []) 9) := ⟨_, rfl⟩
    have hb2 : Below w1.heap.size w1 W2 := by rw [hW2]; exact belowNew w1 _
    have hq2 : W2.heap[w1.heap.size]? = some (.cells (rowT m []) 9 (0, 0)) := by rw [hW2]; exact heap_alloc_new w1 _
    rw [← hW2]
    obtain ⟨g, hg⟩ : ∃ g, g = w1.heap.size := ⟨_, rfl⟩
    rw [← hg] at hq2 ⊢
    have HB2 := Lib.hid (below_next HB1.out hb2)
    have HQ2 := Lib.hid hq2
    have hwg : w.heap.size ≤ g := by rw [hg]; exact HB1.out.size
    clear hmk hb2 hq2 hW2 hg c0 f0 l0 c1 f1 l1 hwr
    go_loopw [20] (fun i wr => ∃ k : Nat, k ≤ m ∧ i = .int .i64 (k : Int) ∧ wr.heap[g]? = some (.cells (rowT m ((n.take k).map encR)) 9 (0, 0)) ∧ Below w.heap.size w wr) (fun i _ => m - (intOf i).toNat)
    case atStart => exact ⟨0, Nat.zero_le _, rfl, HQ2.out, HB2.out⟩
    case round =>
      obtain ⟨k, hk, rfl, hq, hb⟩ := hrel
      have HB := Lib.hid hb
      have HQ := Lib.hid hq
      clear hb hq
      by_cases hlt : k < m
      · have hd : decide ((k : Int) < (m : Int)) = true := by simp; omega
        obtain ⟨b, o, rfl, hb, a', c', e0, hc', hL⟩ := H1.out.at k (by rw [← HN.out]; exact hlt)
        have a0 : wr.cell? ⟨b, o + k, none⟩ = _ := (HB.out.cell (p := ⟨b, o + k, none⟩) hb).trans e0
        have hst : (n.take (k + 1)).map encR = (n.take k).map encR ++ [encR (n.getD k [])] := by rw [takeD n k (by rw [← HN.out]; exact hlt) []]; simp
        have hsm := HS.out.2 k (by rw [← HN.out]; exact hlt)
        have hrz := (chkR_zero (HCH.out k (by rw [← HN.out]; exact hlt))).2.1
        generalize n.getD k [] = r at a0 hst hsm hc' hL hrz
        obtain ⟨q, hqq⟩ : ∃ q, q = r.length := ⟨_, rfl⟩
        rw [← hqq] at a0 hc'
        have HEN := Lib.hid (encrel_any a' c' q r wr (hL.below HB.out) hqq hsm (by omega))
        obtain ⟨s, hs⟩ : ∃ s, s = encR r := ⟨_, rfl⟩
        rw [← hs] at HEN hst
        have HST := Lib.hid hst
        have HLL := Lib.hid (show k = ((n.take k).map encR).length by rw [List.length_map, List.length_take, ← HN.out]; omega)
        have hgl : g < wr.heap.size := (Array.getElem?_eq_some_iff.1 HQ.out).1
        clear e0 hb hsm hs hst hrz hqq hL hc'
        go_wp2_with (go_at_call 32; (with_reducible refine HEN.out.mono ?_); rintro e w3 ⟨rfl, hb3⟩; have hq3 := (hb3.block g hgl).trans HQ.out; have HQ3 := Lib.hid hq3; have HB3 := Lib.hid (below_next HB.out hb3); obtain ⟨cv, hcv⟩ := rowT_at m ((n.take k).map encR) (by have := HLL.out; omega) k hlt; have hcell : w3.cell? ⟨g, k, none⟩ = some cv := (by rw [Lib.cell_of_heap hq3]; exact hcv); have hfz : w3.frozen? ⟨g, k, none⟩ = false := Lib.frozen_of_heap hq3 k; clear hb3 hq3 hcv)
        go_roundw
        case rel => exact ⟨k + 1, by omega, by go_num, by rw [HST.out]; exact row_put HQ3.out HLL.out hlt, HB3.out.setCell (p := ⟨g, k, none⟩) hwg _⟩
        case measure => simp [intOf]; omega
      · have hd : decide ((k : Int) < (m : Int)) = false := by simp; omega
        have hR := row_reads HQ.out (by rw [List.length_map, List.length_take, ← HN.out]; omega)
        rw [List.take_of_length_le (by rw [← HN.out]; omega)] at hR
        have HR := Lib.hid (HDW.out _ _ hR)
        rw [← HV.out] at HR
        clear hR
        go_wp2_with (go_at_call 33; (with_reducible refine HR.out.mono ?_); rintro e w1 ⟨rfl, hb1⟩; have HB1 := Lib.hid (below_next HB.out hb1); clear hb1)
        go_ret2
        exact ⟨rfl, HB1.out⟩
  · have hz1 := errno_ne hz
    have HV := Lib.hid (show V = ⟨#[]⟩ by rw [hV]; unfold encV; rw [← hE, if_neg hz])
    clear hE hV hn hs h hT hW0 hb0 hq0
    rw [HV.out]
    go_enter Tryz.func14, Tryz.ntmps14
    go_wp2_with (go_at_call 16; (with_reducible refine HC.out.mono ?_); rintro e w1 ⟨rfl, hb1⟩; have HB1 := Lib.hid (below_next HB0.out hb1); clear hb1)
    go_ret2
    exact ⟨rfl, HB1.out⟩
end Go.Proofs.YtfpfgdbfigdooaaGreatDoor
namespace Go.Proofs.YtfpfgdbfigdooaaGreatDoor
open Go.RowKit

theorem str_dig (d : UInt8) (w : World) : (convert 61 9 (.slice (some ⟨w.heap.size, 0, none⟩) 1 1)).run Tryz.prog (w.alloc (.cells #[.int .u8 ((d.toNat : Nat) : Int)] 5)) = .ok (.string (strOf [d])) (w.alloc (.cells #[.int .u8 ((d.toNat : Nat) : Int)] 5)) :=
  own_str (l := [d]) ⟨rfl, .inr ⟨w.heap.size, 1, _, rfl, Nat.le_refl _, heap_alloc_new w _, Nat.le_refl _, by decide, rfl, rfl⟩⟩

set_option maxRecDepth 100000 in
set_option maxHeartbeats 1000000 in
theorem dec_small (n : Nat) (h : n < 10) (w : World) :
    Calls Tryz.prog 112 #[.int .i64 (n : Int)] w fun e w' => e = .returned (.string (strOf (Lib.decDigits n))) ∧ Below w.heap.size w w' := by
  have d1 : decide ((n : Int) < 10) = true := by simp; omega
  obtain ⟨d, hd⟩ : ∃ d : UInt8, d = UInt8.ofNat (48 + n) := ⟨_, rfl⟩
  have hdn : wrap64 (48 + (n : Int)) % 256 = ((d.toNat : Nat) : Int) := by rw [hd]; unfold wrap64; simp; omega
  have hs := str_dig d
  have HD := Lib.hid (show Lib.decDigits n = [d] by rw [Lib.decDigits_one h, hd])
  clear h hd
  go_enter Tryz.func112, Tryz.ntmps112
  go_wp2_with fail
  go_ret
  exact ⟨by rw [HD.out]; rfl, belowNew _ _⟩
theorem conv_later (d : UInt8) (w w1 : World) (hb : Below (w.alloc (.cells #[.int .u8 ((d.toNat : Nat) : Int)] 5)).drew.heap.size (w.alloc (.cells #[.int .u8 ((d.toNat : Nat) : Int)] 5)).drew w1) :
    (convert 61 9 (.slice (some ⟨w.heap.size, 0, none⟩) 1 1)).run Tryz.prog w1 = .ok (.string (strOf [d])) w1 :=
  own_str (B := w.heap.size) (l := [d]) (own_below (w := (w.alloc (.cells #[.int .u8 ((d.toNat : Nat) : Int)] 5)).drew) (World.ownsRow.drew ⟨rfl, .inr ⟨w.heap.size, 1, _, rfl, Nat.le_refl _, heap_alloc_new w _, Nat.le_refl _, by decide, rfl, rfl⟩⟩) hb)
theorem str_dig_drew (d : UInt8) (w : World) : (convert 61 9 (.slice (some ⟨w.heap.size, 0, none⟩) 1 1)).run Tryz.prog (w.alloc (.cells #[.int .u8 ((d.toNat : Nat) : Int)] 5)).drew = .ok (.string (strOf [d])) (w.alloc (.cells #[.int .u8 ((d.toNat : Nat) : Int)] 5)).drew :=
  own_str (B := w.heap.size) (l := [d]) (World.ownsRow.drew ⟨rfl, .inr ⟨w.heap.size, 1, _, rfl, Nat.le_refl _, heap_alloc_new w _, Nat.le_refl _, by decide, rfl, rfl⟩⟩)
set_option maxRecDepth 100000 in
set_option maxHeartbeats 1000000 in
theorem dec_bound (k : Nat) : ∀ (n : Nat) (w : World), n < 10 ^ (k + 1) → n ≤ 9223372036854775807 →
    Calls Tryz.prog 112 #[.int .i64 (n : Int)] w fun e w' => e = .returned (.string (strOf (Lib.decDigits n))) ∧ Below w.heap.size w w' := by
  induction k with
  | zero => intro n w h _; exact dec_small n (by simpa using h) w
  | succ k ih =>
    intro n w h hn
    by_cases h10 : n < 10
    · exact dec_small n h10 w
    · have d1 : decide ((n : Int) < 10) = false := by simp; omega
      obtain ⟨q, hq⟩ : ∃ q, q = n / 10 := ⟨_, rfl⟩
      obtain ⟨d, hd⟩ : ∃ d : UInt8, d = UInt8.ofNat (48 + n % 10) := ⟨_, rfl⟩
      have hqi : (n : Int) / 10 = (q : Int) := by rw [hq]; omega
      have HIH := Lib.hid (fun w => ih q w (by rw [hq]; rw [Nat.pow_succ] at h; omega) (by omega))
      have hqw : IntKind.i64.wrap (q : Int) = (q : Int) := by rw [wrap_i64]; omega
      have hdn : IntKind.u8.wrap (IntKind.i64.wrap (48 + (n : Int).tmod 10)) = ((d.toNat : Nat) : Int) := by
        rw [hd, wrap_i64, Int.tmod_eq_emod_of_nonneg (by omega)]
        simp [IntKind.wrap, IntKind.bits, IntKind.signed]
        omega
      have hs := str_dig_drew d
      have HD := Lib.hid (show Lib.decDigits n = Lib.decDigits q ++ [d] by
        conv => lhs; rw [Lib.decDigits]
        rw [dif_neg h10, hq, hd])
      have hcat : ∀ w, (Op.stringOp .add (strOf (Lib.decDigits q)) (strOf [d])).run Tryz.prog w = .ok (.string (strOf (Lib.decDigits n))) w := fun w => by
        rw [run_string_add_sum w _ _ (by
          rw [strOf_size, strOf_size, Lib.decDigits_length]
          have := Lib.nDigits_le20 q (by omega)
          simp; omega), str_cat, HD.out]
      clear hq hd ih h
      go_enter Tryz.func112, Tryz.ntmps112
      go_upto_region 3 with fail
      go_region_with (first
        | (go_at_call 112; (with_reducible refine (HIH.out _).mono ?_); rintro e w1 ⟨rfl, hb1⟩; have hs1 := conv_later d w w1 hb1; have HB1 := Lib.hid (show Below w.heap.size w w1 from (belowNew w _).drew.trans (hb1.mono (by simp))); clear hb1)
        | (go_at_call 112; (with_reducible refine (HIH.out _).mono ?_); rintro e w1 ⟨rfl, hb1⟩; have hs1 := str_dig d w1; have HB1 := Lib.hid (show Below w.heap.size w w1 from (Below.refl _ w).drew.trans (hb1.mono (by simp))); clear hb1))
      all_goals
        go_wp2_with fail
        go_ret
        first
        | exact ⟨rfl, HB1.out⟩
        | exact ⟨rfl, HB1.out.alloc HB1.out.size _⟩
theorem decno_any (n : Nat) (w : World) (hn : n ≤ 9223372036854775807) :
    Calls Tryz.prog 112 #[.int .i64 (n : Int)] w fun e w' => e = .returned (.string (strOf (Lib.decDigits n))) ∧ Below w.heap.size w w' :=
  dec_bound 18 n w (by omega) hn
end Go.Proofs.YtfpfgdbfigdooaaGreatDoor
namespace Go.Proofs.YtfpfgdbfigdooaaGreatDoor
open Go.RowKit

/-- The numbers L can be read from the address a0 on. -/
def WLies (w : World) (a0 : Option Addr) (L : List Nat) : Prop :=
  L = [] ∨ ∃ b off, a0 = some ⟨b, off, none⟩ ∧ ∀ i, i < L.length → w.cell? ⟨b, off + i, none⟩ = some (.int .u32 ((L.getD i 0 : Nat) : Int))
theorem WLies.below {w w' : World} {a0 : Option Addr} {L : List Nat} (h : WLies w a0 L) (hb : Below w.heap.size w w') : WLies w' a0 L := by
  rcases h with h | ⟨b, off, h1, h2⟩
  · exact .inl h
  · refine .inr ⟨b, off, h1, fun i hi => ?_⟩
    rw [← h2 i hi]
    exact hb.cell (World.block_lt_of_cell? _ _ (h2 i hi))
theorem WLies.take {w : World} {a0 : Option Addr} {L : List Nat} (h : WLies w a0 L) (k : Nat) : WLies w a0 (L.take k) := by
  rcases h with h | ⟨b, off, h1, h2⟩
  · exact .inl (by rw [h]; simp)
  · refine .inr ⟨b, off, h1, fun i hi => ?_⟩
    rw [List.length_take] at hi
    rw [h2 i (by omega), List.getD_eq_getElem?_getD, List.getD_eq_getElem?_getD, List.getElem?_take_of_lt (by omega)]
def idOne (y : Nat) : Nat := y / 2 ^ (y % 32) % 2147483648
def idHead : List Nat → List Nat
  | [] => [2, 999]
  | x :: _ => [x % 3, x / 3 % 40]
def idRest (L : List Nat) : List Nat := ((L.drop 1).take 7).map idOne
def idArcs (L : List Nat) : List Nat := idHead L ++ idRest L
theorem idHead_len (L : List Nat) : (idHead L).length = 2 := by cases L <;> rfl
theorem idRest_len (L : List Nat) : (idRest L).length = min 7 (L.length - 1) := by simp [idRest]
theorem idArcs_good (L : List Nat) : Good (idArcs L) := by
  refine ⟨by simp [idArcs, idHead_len], by simp [idArcs, idHead_len, idRest_len]; omega, ?_, ?_, ?_⟩
  · intro v hv
    rcases List.mem_append.1 hv with hv | hv
    · cases L with
      | nil => simp [idHead] at hv; omega
      | cons x r => simp [idHead] at hv; omega
    · obtain ⟨y, _, rfl⟩ := List.mem_map.1 hv
      unfold idOne; omega
  · cases L with
    | nil => simp [idArcs, idHead]
    | cons x r => simp [idArcs, idHead]; omega
  · cases L with
    | nil => simp [idArcs, idHead]
    | cons x r => simp [idArcs, idHead]; omega
theorem txt_len (a : List Nat) (h : ∀ v ∈ a, v ≤ 2147483647) : (txt a).length ≤ 11 * a.length := by
  by_cases h0 : a = []
  · subst h0; simp [txt]
  · have e := congrArg List.length (txt_dot a h0)
    have key : ∀ a : List Nat, (∀ v ∈ a, v ≤ 2147483647) → (cat fdot a).length ≤ 11 * a.length := by
      intro a
      induction a with
      | nil => intro _; simp [cat]
      | cons v a ih =>
        intro h
        have h1 := dec_len 10 v (Nat.lt_of_le_of_lt (h v (by simp)) (by decide)) (by omega)
        have h2 := ih (fun x hx => h x (by simp [hx]))
        simp only [cat, fdot, List.length_append, List.length_cons, List.length_nil]; omega
    have := key a h
    rw [List.length_append] at e
    simp at e; omega
theorem add_str (a b : List UInt8) (h : a.length + b.length ≤ 9223372036854775807) (w : World) : (Op.stringOp .add (strOf a) (strOf b)).run Tryz.prog w = .ok (.string (strOf (a ++ b))) w := by
  rw [run_string_add_sum w _ _ (by rw [strOf_size, strOf_size]; exact h), str_cat]
theorem and_max : ∀ v : Nat, v < 4294967296 → bits BinOp.and .i64 ((v : Nat) : Int) 2147483647 = ((v % 2147483648 : Nat) : Int) := by
  intro v hv
  show IntKind.i64.wrap ((BitVec.ofInt 64 (v : Int) &&& BitVec.ofInt 64 2147483647).toNat : Int) = _
  rw [BitVec.toNat_and, BitVec.toNat_ofInt, BitVec.toNat_ofInt, wrap_i64]
  have e1 : ((v : Int) % (2 ^ 64 : Nat)).toNat = v := by
    show ((v : Int) % (18446744073709551616 : Nat)).toNat = v
    omega
  have e2 : ((2147483647 : Int) % (2 ^ 64 : Nat)).toNat = 2 ^ 31 - 1 := by decide
  rw [e1, e2, Nat.and_two_pow_sub_one_eq_mod]
  show (((v % 2147483648 : Nat) : Int) + 9223372036854775808) % 18446744073709551616 - 9223372036854775808 = _
  omega

theorem add_dot (a : List UInt8) (h : a.length ≤ 1000) (w : World) : (Op.stringOp .add (strOf a) ⟨#[46]⟩).run Tryz.prog w = .ok (.string (strOf (a ++ [46]))) w := add_str a [46] (by simp; omega) w
theorem dot_add (a : List UInt8) (h : a.length ≤ 1000) (w : World) : (Op.stringOp .add ⟨#[46]⟩ (strOf a)).run Tryz.prog w = .ok (.string (strOf (46 :: a))) w := add_str [46] a (by simp; omega) w
theorem shr_32 (y : Nat) (hy : y < 4294967296) (w : World) : (Op.shift .shr .u32 (y : Int) .u32 ((y : Int).tmod 32)).run Tryz.prog w = .ok (.int .u32 ((y / 2 ^ (y % 32) : Nat) : Int)) w := by
  have e : (y : Int).tmod 32 = ((y % 32 : Nat) : Int) := by rw [Int.tmod_eq_emod_of_nonneg (by omega)]; omega
  rw [e, shift_shr .u32 .u32 (y : Int) ((y % 32 : Nat) : Int) (by omega) (by show ((y % 32 : Nat) : Int) ≤ 32; omega), Int.toNat_natCast]
  show Result.ok _ _ = _
  congr 2
theorem decno_2 (w : World) : Calls Tryz.prog 112 #[.int .i64 2] w fun e w' => e = .returned (.string (strOf (Lib.decDigits 2))) ∧ Below w.heap.size w w' := decno_any 2 w (by omega)
theorem decno_999 (w : World) : Calls Tryz.prog 112 #[.int .i64 999] w fun e w' => e = .returned (.string (strOf (Lib.decDigits 999))) ∧ Below w.heap.size w w' := decno_any 999 w (by omega)
theorem dec_le10 {v : Nat} (h : v ≤ 2147483647) : (Lib.decDigits v).length ≤ 10 := dec_len 10 v (Nat.lt_of_le_of_lt h (by decide)) (by omega)

end Go.Proofs.YtfpfgdbfigdooaaGreatDoor
