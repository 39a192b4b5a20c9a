/-
  The contracts of slices.SortFunc over attributes and of formatRelative.
  The contracts of formatRelative and of Format.
  The contract of Format.
  What the reference's FormatName does, as plain laws: the least attribute is taken again and again; the short types. Nothing is claimed of the program here.
  A name that can be read: its relative names lie at its address, and their attributes at theirs.
  A store into a cell of a name leaves a name in memory, of the same numbers of relative names and attributes. A parameter of type api.Attribute.
-/
import Derived.Test.YtflpajbcomhkpaaGreatDoorSbl
import Derived.Test.YtflpajbcomhkpaaGreatDoorSak
import Derived.Test.YtflpajbcomhkpaaGreatDoorSaj
import Derived.ProofKit
import Derived.OpenShut
import Derived.Deep.Slices
import Derived.Deep.Strs
import Derived.Deep.DeepHandedRow
namespace Go.Proofs.YtflpajbcomhkpaaGreatDoor
open Go.RowKit

theorem rowG_of {w : World} {B : Nat} {v : Value} {l : List At} (h : OwnA w B v l) (h0 : l ≠ []) : ∃ g c rest, v = .slice (some ⟨g, 0, none⟩) l.length c ∧ B ≤ g ∧ l.length ≤ c ∧ RowG w g rest l := by
  rcases h.2 with ⟨_, e⟩ | ⟨g, cap, cur, hv, hB, hblk, h1, h2, h3, h4⟩
  · exact absurd (List.eq_nil_of_length_eq_zero e) h0
  · refine ⟨g, cap, cur.toList.drop (l.length * 3), hv, hB, h1, ?_⟩
    unfold RowG
    rw [hblk, ← h4, List.take_append_drop]

set_option maxRecDepth 100000 in
set_option maxHeartbeats 4000000 in
theorem pdq_any (g c n m : Nat) (rest : List Value) (L : List At) (w : World) (h : RowG w g rest L) (hn : n = L.length) (h1 : 1 ≤ n) (h12 : n ≤ 12) (hs : SmallR L) :
    Calls Tryz.prog 203 #[.slice (some ⟨g, 0, none⟩) n c, .int .i64 0, .int .i64 (n : Int), .int .i64 (m : Int), .func (.func 169) #[] #[]] w fun e w' => e = .returned (.tuple #[]) ∧ ∃ D, D.Perm L ∧ Srt D ∧ RowG w' g rest D ∧ But g w w' := by
  have HI := Lib.hid (isort_any g c n rest L w h hn h1 h12 hs)
  clear h hn hs
  go_enter Tryz.func203, Tryz.ntmps203
  go_wp2_with fail
  go_loopw [1, 2] (fun x y wr => x = .int .i64 0 ∧ y = .int .i64 (n : Int) ∧ wr = w) (fun _ _ _ => 0)
  case atStart => exact ⟨rfl, rfl, rfl⟩
  case round =>
    obtain ⟨rfl, rfl, hw⟩ := hrel
    have hle : decide ((n : Int) ≤ 12) = true := by simp; omega
    have hsub : (n : Int) - 0 = (n : Int) := by omega
    have HI2 := HI
    rw [← hw] at HI2
    have HW := Lib.hid hw
    clear hw
    go_wp2_with (go_at_call 237; (with_reducible refine HI2.out.mono ?_); rintro e w1 ⟨rfl, D, q1, q2, q3, q4⟩; have Q1 := Lib.hid q1; have Q2 := Lib.hid q2; have Q3 := Lib.hid q3; have Q4 := Lib.hid q4; clear q1 q2 q3 q4)
    exact bodyPost_ret (results_none rfl _ _ _) rfl ⟨rfl, D, Q1.out, Q2.out, Q3.out, by rw [← HW.out]; exact Q4.out⟩

set_option maxRecDepth 100000 in
set_option maxHeartbeats 4000000 in
theorem sortf_any (g c n : Nat) (rest : List Value) (L : List At) (w : World) (h : RowG w g rest L) (hn : n = L.length) (h1 : 1 ≤ n) (h12 : n ≤ 12) (hs : SmallR L) :
    Calls Tryz.prog 168 #[.slice (some ⟨g, 0, none⟩) n c, .func (.func 169) #[] #[]] w fun e w' => e = .returned (.tuple #[]) ∧ ∃ D, D.Perm L ∧ Srt D ∧ RowG w' g rest D ∧ But g w w' := by
  have HI := Lib.hid (fun m => pdq_any g c n m rest L w h hn h1 h12 hs)
  have HL := Lib.hid (blen_any n w (by omega))
  clear h hn hs
  go_enter Tryz.func168, Tryz.ntmps168
  go_wp2_with (first
    | (go_at_call 204; (with_reducible refine HL.out.mono ?_); rintro e w1 ⟨rfl, rfl⟩)
    | (go_at_call 203; (with_reducible refine (HI.out _).mono ?_); rintro e w1 ⟨rfl, D, q1, q2, q3, q4⟩; have Q1 := Lib.hid q1; have Q2 := Lib.hid q2; have Q3 := Lib.hid q3; have Q4 := Lib.hid q4; clear q1 q2 q3 q4))
  go_end0
  exact ⟨rfl, D, Q1.out, Q2.out, Q3.out, Q4.out⟩
end Go.Proofs.YtflpajbcomhkpaaGreatDoor
namespace Go.Proofs.YtflpajbcomhkpaaGreatDoor
open Go.RowKit

theorem sh_small_all : (SH.all fun p => decide (p.1.size ≤ 2)) = true := by decide +kernel
theorem shortO_size (x : ByteArray) : (shortO x).size ≤ x.size + 2 := by
  unfold shortO
  cases hf : SH.find? (fun p => decide (p.2 = x)) with
  | none => exact Nat.le_add_right _ _
  | some p =>
    have : p.1.size ≤ 2 := of_decide_eq_true (List.all_eq_true.1 sh_small_all p (List.mem_of_find?_eq_some hf))
    show p.1.size ≤ _
    omega
noncomputable def outF (r : List At) : List ByteArray := (sortR r).map fmtA
theorem outF_len (r : List At) : (outF r).length = r.length := by unfold outF; rw [List.length_map, (sortR_perm r).length_eq]
def PreF (r : List At) : Prop := okR r ∧ r.length ≤ 4 ∧ ∀ x ∈ r, x.1.size ≤ 200000
theorem PreF.small {r : List At} (h : PreF r) : SmallR r := by
  refine ⟨Nat.le_trans h.2.1 (by omega), fun j hj => ?_⟩
  have hm := getD_memS r j hj noAt
  exact ⟨Nat.le_trans (h.2.2 _ hm) (by omega), Nat.le_trans (h.1.2.1 _ hm).2.2.2 (by omega)⟩

set_option maxRecDepth 100000 in
set_option maxHeartbeats 8000000 in
theorem frel_any (a0 : Option Addr) (c n : Nat) (l : List At) (w : World) (h : ALies w a0 l) (hn : n = l.length) (hp : PreF l) (hS : ShT w) :
    Calls Tryz.prog 132 #[.slice a0 n c] w fun e w' => ∃ g, e = .returned (.slice (some ⟨g, 0, none⟩) n n) ∧ (∀ j x, (outF l)[j]? = some x → w'.cell? ⟨g, 0 + j, none⟩ = some (.string x)) ∧ g < w'.heap.size ∧ Below w.heap.size w w' := by
  have h1 : 1 ≤ n := by rw [hn]; exact hp.1.1
  have h4 : n ≤ 4 := by rw [hn]; exact hp.2.1
  have hs := hp.small
  have hl0 : l ≠ [] := by intro e; rw [e] at hn; simp at hn; omega
  obtain ⟨b, o, rfl⟩ : ∃ b o, a0 = some ⟨b, o, none⟩ := by
    rcases h with h | ⟨b, o, e, _⟩
    · exact absurd h hl0
    · exact ⟨b, o, e⟩
  have HC := Lib.hid (aclone_any b o c n l w h hn h1 (by omega))
  have HN := Lib.hid hn
  have HS := Lib.hid hS
  have HSM := Lib.hid hs
  have HOK := Lib.hid hp.1.2.1
  have HTZ := Lib.hid hp.2.2
  have HL0 := Lib.hid hl0
  clear h hn hp hS hs hl0
  go_enter Tryz.func132, Tryz.ntmps132
  go_upto_region 2 with (go_at_call 167; (with_reducible refine HC.out.mono ?_); rintro e w1 ⟨v, rfl, ho1, hb1⟩; have HB1 := Lib.hid hb1; have HO1 := Lib.hid ho1; clear hb1 ho1)
  obtain ⟨g, cg, rest, hv, hBg, hcg, hrow⟩ := rowG_of HO1.out HL0.out
  subst hv
  rw [← HN.out] at hcg ⊢
  have HSF := Lib.hid (sortf_any g cg n rest l w1 hrow HN.out h1 (by omega) HSM.out)
  clear hrow
  go_upto_region 3 with (go_at_call 168; (with_reducible refine HSF.out.mono ?_); rintro e w2 ⟨rfl, D, q1, q2, q3, q4⟩; have Q1 := Lib.hid q1; have Q2 := Lib.hid q2; have Q3 := Lib.hid q3; have Q4 := Lib.hid q4; clear q1 q2 q3 q4)
  have HDS := Lib.hid (sort_unique Q2.out Q1.out HOK.out)
  have HDL := Lib.hid (show D.length = n by rw [Q1.out.length_eq, HN.out])
  have HB2 := Lib.hid (show Below w.heap.size w w2 from HB1.out.grown Q4.out HB1.out.size (fun k e => by obtain rfl := Option.some.inj e; exact hBg))
  have hmk := strs_make n (by omega)
  obtain ⟨W0, hW0⟩ : ∃ W0, W0 = w2.alloc (.cells (rowT n []) 9) := ⟨_, rfl⟩
  have hb0 : Below w2.heap.size w2 W0 := by rw [hW0]; exact belowNew w2 _
  have hq0 : W0.heap[w2.heap.size]? = some (.cells (rowT n []) 9 (0, 0)) := by rw [hW0]; exact heap_alloc_new w2 _
  obtain ⟨g2, hg2⟩ : ∃ g2, g2 = w2.heap.size := ⟨_, rfl⟩
  have HWE := Lib.hid hW0.symm
  have HB0 := Lib.hid hb0
  rw [← hg2] at hq0
  have HQ0 := Lib.hid hq0
  have HG2 := Lib.hid hg2
  clear hW0 hb0 hq0 hg2
  go_wp2_with fail
  rw [HWE.out, ← HG2.out]
  clear hmk
  go_loopw [16] (fun i wr => ∃ k : Nat, k ≤ n ∧ i = .int .i64 (k : Int) ∧ wr.heap[g2]? = some (.cells (rowT n ((D.take k).map fmtA)) 9 (0, 0)) ∧ Below w2.heap.size w2 wr) (fun i _ => n - (intOf i).toNat)
  case atStart => exact ⟨0, Nat.zero_le _, rfl, HQ0.out, HB0.out⟩
  case round =>
    obtain ⟨wo, hwo⟩ : ∃ wo, wo = wr := ⟨_, rfl⟩
    subst hwo
    obtain ⟨k, hk, rfl, hq, hb⟩ := hrel
    have HB := Lib.hid hb
    have HQ := Lib.hid hq
    clear hb hq
    by_cases hlt : k < n
    · have hd : decide ((k : Int) < (n : Int)) = true := by simp; omega
      have hki : (k : Int) < (n : Int) := by omega
      obtain ⟨a0, a1, a2, _, _, _⟩ := (Q3.out.below HB.out).at k (by rw [HDL.out]; exact hlt)
      have hst : (D.take (k + 1)).map fmtA = (D.take k).map fmtA ++ [fmtA (D.getD k noAt)] := by rw [takeD D k (by rw [HDL.out]; exact hlt) noAt]; simp
      have hmem := Q1.out.mem_iff.1 (getD_memS D k (by rw [HDL.out]; exact hlt) noAt)
      have hok := HOK.out _ hmem
      have htz := HTZ.out _ hmem
      generalize D.getD k noAt = y at a0 a1 a2 hst hok htz
      obtain ⟨t, kd, v⟩ := y
      simp only at a0 a1 a2
      have hS2 := HS.out.below (HB2.out.trans (HB.out.mono HB2.out.size))
      have HSO := Lib.hid (fun W (hb : Below wo.heap.size wo W) => shortO_any t W (hS2.below hb))
      have hz := shortO_size t
      have HA := Lib.hid (fun W => assign_any (shortO t) v W (by have : t.size ≤ 200000 := htz; omega) (by have : v.size ≤ 64 := hok.2.2.2; omega))
      have hks : fmtA (t, kd, v) = strOf ((shortO t).data.toList ++ 61 :: escL v.data.toList) := rfl
      rw [← hks] at HA
      obtain ⟨F, hF⟩ : ∃ F, F = shortO t := ⟨_, rfl⟩
      rw [← hF] at HA HSO
      obtain ⟨s, hs⟩ : ∃ s, s = fmtA (t, kd, v) := ⟨_, rfl⟩
      rw [← hs] at HA hst
      have HST := Lib.hid hst
      have HLL := Lib.hid (show k = ((D.take k).map fmtA).length by rw [List.length_map, List.length_take, HDL.out]; omega)
      have hgl : g2 < wo.heap.size := (Array.getElem?_eq_some_iff.1 HQ.out).1
      obtain ⟨G, hGG⟩ : ∃ G, G = wo.heap.size := ⟨_, rfl⟩
      obtain ⟨V, hV⟩ : ∃ V, V = wo.alloc (.cells #[.string t, .int .i64 kd, .string v] 103) := ⟨_, rfl⟩
      have hbV : Below wo.heap.size wo V := by rw [hV]; exact belowNew wo _
      obtain ⟨y0, y1, y2, _, _, _, yl⟩ := at_facts (show V.heap[G]? = _ from by rw [hV, hGG]; exact heap_alloc_new wo _)
      have hqV := (hbV.block g2 hgl).trans HQ.out
      have HQV := Lib.hid hqV
      have hgV : g2 < V.heap.size := (Array.getElem?_eq_some_iff.1 hqV).1
      have HBO := Lib.hid hbV
      have HBV := Lib.hid (below_next HB.out hbV)
      have HVE := Lib.hid hV.symm
      have HGE := Lib.hid hGG
      obtain ⟨cv, hcv⟩ := rowT_at n ((D.take k).map fmtA) (by have := HLL.out; omega) k hlt
      have HCV := Lib.hid hcv
      have hgG : ¬ g2 = G := by omega
      have hGg : ¬ G = g2 := by omega
      clear hst hs hks hF hbV hV hGG hqV hcv hmem hok htz hS2 hz
      go_upto_region 7 with fail
      rw [HVE.out, ← HGE.out]
      clear a0 a1 a2
      go_region_held3 (fun w' => w'.cell? ⟨G, 0, none⟩ = some (.string t) ∧ w'.cell? ⟨G, 2, none⟩ = some (.string v)) (first | exact ⟨by assumption, by assumption⟩ | go_keep)
        (first
          | (go_at_call 172; (with_reducible refine (HSO.out _ (by first | exact HBO.out | exact HBO.out.drew)).mono ?_); rintro e x1 ⟨rfl, hb⟩; have hx : Below V.heap.size V x1 := (by first | exact hb | exact below_next (Below.refl _ _).drew hb); have d0' := (hx.cell (p := ⟨G, 0, none⟩) yl).trans y0; have d2' := (hx.cell (p := ⟨G, 2, none⟩) yl).trans y2; have HX1 := Lib.hid hx; clear hb hx)
          | (go_at_call 171; (with_reducible refine (HA.out _).mono ?_); rintro e x2 ⟨rfl, hb⟩; have hx : Below V.heap.size V x2 := below_next HX1.out hb; have d0' := (hx.cell (p := ⟨G, 0, none⟩) yl).trans y0; have d2' := (hx.cell (p := ⟨G, 2, none⟩) yl).trans y2; have hq2 := (hx.block g2 hgV).trans HQV.out; have HQ2 := Lib.hid hq2; have hcell : x2.cell? ⟨g2, k, none⟩ = some cv := (by rw [Lib.cell_of_heap hq2]; exact HCV.out); have hfz : x2.frozen? ⟨g2, k, none⟩ = false := Lib.frozen_of_heap hq2 k; have HX2 := Lib.hid (below_next HBV.out hx); clear hb hx hq2))
      all_goals
        go_wp2_with fail
        go_roundw
        case rel => exact ⟨k + 1, by omega, by go_num, by rw [HST.out]; exact row_put HQ2.out HLL.out hlt, HX2.out.setCell (p := ⟨g2, k, none⟩) (by rw [HG2.out]; exact Nat.le_refl _) _⟩
        case measure => simp [intOf]; omega
    · have hd : decide ((k : Int) < (n : Int)) = false := by simp; omega
      have hq := HQ.out
      rw [List.take_of_length_le (by rw [HDL.out]; omega)] at hq
      have HF := Lib.hid (show ∀ j x, (outF l)[j]? = some x → wo.cell? ⟨g2, 0 + j, none⟩ = some (.string x) from fun j x hx => by
        have e : D.map fmtA = outF l := by unfold outF; rw [HDS.out]
        rw [Nat.zero_add, Lib.cell_of_heap hq, rowT_all n _ (by rw [List.length_map, HDL.out]), e]
        simp [hx])
      have hgl : g2 < wo.heap.size := (Array.getElem?_eq_some_iff.1 hq).1
      clear hq
      go_wp2_with fail
      go_ret
      exact ⟨g2, rfl, HF.out, hgl, HB2.out.trans (HB.out.mono HB2.out.size)⟩
end Go.Proofs.YtflpajbcomhkpaaGreatDoor
namespace Go.Proofs.YtflpajbcomhkpaaGreatDoor
open Go.RowKit

noncomputable def fmtV (n : Nm) : ByteArray := if chkN n = 0 then fmtN n else ⟨#[]⟩
theorem fmtA_len {a : At} (h1 : a.1.size ≤ 200000) (h2 : a.2.2.size ≤ 64) : (fmtA a).data.toList.length ≤ 200195 := by
  have e1 : (fmtA a).data.toList.length = (shortO a.1).data.toList.length + ((escL a.2.2.data.toList).length + 1) := by
    show ((shortO a.1).data.toList ++ 61 :: escL a.2.2.data.toList).length = _
    rw [List.length_append, List.length_cons]
  have e2 := escL_len a.2.2.data.toList
  have e3 := shortO_size a.1
  have e4 : a.2.2.data.toList.length = a.2.2.size := rfl
  have e5 : (shortO a.1).data.toList.length = (shortO a.1).size := rfl
  omega
theorem joinF_small {r : List At} (h : PreF r) : (joinS outF r).size ≤ 1000000 := by
  show (Lib.join ((outF r).map (·.data.toList)) [43]).length ≤ _
  have hl := join_len 43 200195 ((outF r).map (·.data.toList)) (fun p hp => by
    obtain ⟨s, hs, rfl⟩ := List.mem_map.1 hp
    obtain ⟨a, ha, rfl⟩ := List.mem_map.1 hs
    have hm := (sortR_perm r).mem_iff.1 ha
    exact fmtA_len (h.2.2 a hm) (h.1.2.1 a hm).2.2.2)
  rw [List.length_map, outF_len] at hl
  have := h.2.1
  omega
theorem gives_fmt : GivesR 132 outF PreF ShT := by
  intro a c q r W h hq _ hp hi
  exact (frel_any a c q r W h hq hp hi).mono fun e w' ⟨g, he, hc, hl, hb⟩ => ⟨g, he, by rw [outF_len, hq], hc, hl, hb⟩
theorem fmt_text (n : Nm) : (⟨(Lib.join ((n.map (joinS outF)).map (·.data.toList)) [44]).toArray⟩ : ByteArray) = fmtN n := rfl

set_option maxRecDepth 100000 in
set_option maxHeartbeats 4000000 in
theorem format_core (a0 : Option Addr) (c m : Nat) (n : Nm) (w : World) (h : RLies w a0 n) (hn : m = n.length) (hs : SmallN n) (ht : ∀ r ∈ n, ∀ x ∈ r, x.1.size ≤ 200000) (hT : Tab w) (hS : ShT w) :
    Calls Tryz.prog 89 #[.agg #[.slice a0 m c]] w fun e w' => e = .returned (.tuple #[.string (fmtV n), .int .i64 ((chkN n : Nat) : Int)]) ∧ Below w.heap.size w w' := by
  obtain ⟨W0, hW0⟩ : ∃ W0, W0 = w.alloc (.cells #[.slice a0 m c] 30) := ⟨_, rfl⟩
  have hwr : w.alloc (.cells #[.slice a0 m c] 30) = W0 := hW0.symm
  have hb0 : Below w.heap.size w W0 := by rw [hW0]; exact belowNew w _
  have hq0 : W0.heap[w.heap.size]? = some (.cells #[.slice a0 m c] 30 (0, 0)) := by rw [hW0]; exact heap_alloc_new w _
  have HC := Lib.hid (chk_core a0 c m n W0 (h.below hb0) hn hs (hT.below hb0))
  obtain ⟨E, hE⟩ : ∃ E, E = chkN n := ⟨_, rfl⟩
  obtain ⟨V, hV⟩ : ∃ V, V = fmtV n := ⟨_, rfl⟩
  rw [← hE] at HC ⊢
  rw [← hV]
  have HB0 := Lib.hid hb0
  have HQ0 := Lib.hid hq0
  obtain ⟨c0, f0, l0⟩ := one_facts hq0
  by_cases hz : E = 0
  · have hch := (chkN_iff n).1 (hE.symm.trans hz)
    have HV := Lib.hid (show V = fmtN n by rw [hV]; unfold fmtV; rw [← hE, if_pos hz])
    have hp : ∀ i, i < n.length → PreF (n.getD i []) := fun i hi => by
      have hm := getD_memS n i hi []
      have hr := hch.2 _ hm
      exact ⟨okR_of hr, ((chkR_iff _).1 hr).2.1, ht _ hm⟩
    have HJ := Lib.hid (fun W (hb : Below w.heap.size w W) => djoin_core 132 (enters_of Tryz.func132 (by kernel_rfl) rfl) outF PreF ShT gives_fmt (fun W W' hi hb => hi.below hb) (fun r hr => joinF_small hr) a0 c m n W (h.below hb) hn (by rw [hn]; have := hch.1; omega) (fun i hi => by have := (hp i hi).2.1; omega) hp (hS.below hb))
    rw [fmt_text, ← HV.out] at HJ
    subst hz
    clear hE hV hn hs hch h hT hS hW0 hb0 hq0 hp ht
    go_enter Tryz.func89, Tryz.ntmps89
    go_wp2_with (first
      | (go_at_call 83; (with_reducible refine HC.out.mono ?_); rintro e w1 ⟨rfl, hb1⟩; have HB1 := Lib.hid (below_next HB0.out hb1); have hq1 := (hb1.block w.heap.size l0).trans HQ0.out; have HQ1 := Lib.hid hq1; obtain ⟨c1, f1, l1⟩ := one_facts hq1; clear hb1 hq1)
      | (go_at_call 131; (with_reducible refine (HJ.out _ HB1.out).mono ?_); rintro e w2 ⟨rfl, hb2⟩; have HB2 := Lib.hid (below_next HB1.out hb2); clear hb2))
    go_ret2
    exact ⟨rfl, HB2.out⟩
  · have hz1 := errno_ne hz
    have HV := Lib.hid (show V = ⟨#[]⟩ by rw [hV]; unfold fmtV; rw [← hE, if_neg hz])
    clear hE hV hn hs h hT hS hW0 hb0 hq0 ht
    rw [HV.out]
    go_enter Tryz.func89, Tryz.ntmps89
    go_wp2_with (go_at_call 83; (with_reducible refine HC.out.mono ?_); rintro e w1 ⟨rfl, hb1⟩; have HB1 := Lib.hid (below_next HB0.out hb1); clear hb1)
    go_ret2
    exact ⟨rfl, HB1.out⟩
end Go.Proofs.YtflpajbcomhkpaaGreatDoor
namespace Go.Proofs.YtflpajbcomhkpaaGreatDoor
open Go.RowKit

theorem join_snoc (c : UInt8) : ∀ (D : List (List UInt8)) (x : List UInt8), D ≠ [] → Lib.join (D ++ [x]) [c] = Lib.join D [c] ++ c :: x
  | [], _, h => absurd rfl h
  | [p], x, _ => by
    rw [List.singleton_append, join_two, Lib.join_one, Lib.join_one]
  | p :: q :: r, x, _ => by
    have ih := join_snoc c (q :: r) x (by simp)
    rw [List.cons_append, List.cons_append, join_two, join_two, ← List.cons_append, ih]
    simp
noncomputable def txtD (D : List At) : List UInt8 := Lib.join ((D.map fmtA).map (·.data.toList)) [43]
theorem txtD_one (a : At) : txtD [a] = (fmtA a).data.toList := by
  unfold txtD
  rw [List.map_singleton, List.map_singleton, Lib.join_one]
theorem txtD_snoc {D : List At} (a : At) (h : D ≠ []) : txtD (D ++ [a]) = txtD D ++ 43 :: (fmtA a).data.toList := by
  unfold txtD
  rw [List.map_append, List.map_append, List.map_singleton, List.map_singleton]
  exact join_snoc 43 _ _ (by cases D with | nil => exact absurd rfl h | cons _ _ => simp)
theorem txtD_len {D : List At} (h : ∀ a ∈ D, a.1.size ≤ 200000 ∧ a.2.2.size ≤ 64) : (txtD D).length ≤ 200196 * D.length := by
  have hl := join_len 43 200195 ((D.map fmtA).map (·.data.toList)) (fun p hp => by
    obtain ⟨s, hs, rfl⟩ := List.mem_map.1 hp
    obtain ⟨a, ha, rfl⟩ := List.mem_map.1 hs
    exact fmtA_len (h a ha).1 (h a ha).2)
  rw [List.length_map, List.length_map] at hl
  exact hl
theorem perm_take {L : List At} {m : Nat} (h : m < L.length) : L.Perm (L.getD m noAt :: (L.take m ++ L.drop (m + 1))) := by
  have e : L = L.take m ++ L.getD m noAt :: L.drop (m + 1) := by
    rw [← dropD L m h noAt, List.take_append_drop]
  conv => lhs; rw [e]
  exact List.perm_middle
/-- What is left and what was taken. -/
def Picked (r D L : List At) : Prop := (D ++ L).Perm r ∧ Srt D ∧ ∀ d ∈ D, ∀ x ∈ L, leA d x
theorem Picked.start (r : List At) : Picked r [] r := ⟨List.Perm.refl _, List.Pairwise.nil, fun d hd => by cases hd⟩
theorem Picked.next {r D L : List At} (h : Picked r D L) {m : Nat} (hm : m < L.length) (hl : ∀ i, i < L.length → leA (L.getD m noAt) (L.getD i noAt)) : Picked r (D ++ [L.getD m noAt]) (L.take m ++ L.drop (m + 1)) := by
  obtain ⟨h1, h2, h3⟩ := h
  have hp := perm_take hm
  have hmem : L.getD m noAt ∈ L := getD_memS L m hm noAt
  have hin : ∀ x ∈ L.take m ++ L.drop (m + 1), x ∈ L := fun x hx => hp.mem_iff.2 (List.mem_cons_of_mem _ hx)
  refine ⟨?_, ?_, fun d hd x hx => ?_⟩
  · rw [List.append_assoc, List.singleton_append]
    exact (List.Perm.append_left D hp.symm).trans h1
  · unfold Srt
    rw [List.pairwise_append]
    exact ⟨h2, List.pairwise_singleton _ _, fun a ha b hb => by rw [List.mem_singleton.1 hb]; exact h3 a ha _ hmem⟩
  · rcases List.mem_append.1 hd with hd | hd
    · exact h3 d hd x (hin x hx)
    · rw [List.mem_singleton.1 hd]
      obtain ⟨i, hi, e⟩ := List.getElem_of_mem (hin x hx)
      have := hl i hi
      rwa [getD_mem hi _, e] at this
theorem Picked.done {r D : List At} (h : Picked r D []) (hok : ∀ a ∈ r, okA a) : D = sortR r := sort_unique h.2.1 (by have := h.1; rwa [List.append_nil] at this) hok
theorem txt_sort (r : List At) : txtD (sortR r) = (fmtR r).data.toList := rfl
theorem picked_size {r D L : List At} (h : Picked r D L) : D.length + L.length = r.length := by rw [← List.length_append, h.1.length_eq]

/-! ### The short types, the last one that fits -/
def stS (x : ByteArray) : Nat → ByteArray
  | 0 => x
  | q + 1 => if (SH.getD q (⟨#[]⟩, ⟨#[]⟩)).2 = x then (SH.getD q (⟨#[]⟩, ⟨#[]⟩)).1 else stS x q
theorem stS_none {x : ByteArray} : ∀ q, (∀ j, j < q → (SH.getD j (⟨#[]⟩, ⟨#[]⟩)).2 ≠ x) → stS x q = x
  | 0, _ => rfl
  | q + 1, h => by
    show (if (SH.getD q (⟨#[]⟩, ⟨#[]⟩)).2 = x then (SH.getD q (⟨#[]⟩, ⟨#[]⟩)).1 else stS x q) = x
    rw [if_neg (h q (by omega)), stS_none q (fun j hj => h j (by omega))]
theorem stS_all : ∀ k, k < 7 → stS (SH.getD k (⟨#[]⟩, ⟨#[]⟩)).2 7 = shortO (SH.getD k (⟨#[]⟩, ⟨#[]⟩)).2 := by decide +kernel
theorem stS_short (x : ByteArray) : stS x 7 = shortO x := by
  by_cases h : ∃ k, k < 7 ∧ (SH.getD k (⟨#[]⟩, ⟨#[]⟩)).2 = x
  · obtain ⟨k, hk, e⟩ := h
    have := stS_all k hk
    rwa [e] at this
  · have hn : ∀ j, j < 7 → (SH.getD j (⟨#[]⟩, ⟨#[]⟩)).2 ≠ x := fun j hj e => h ⟨j, hj, e⟩
    rw [stS_none 7 hn, short_miss hn]
theorem shArr_at (q : Nat) (h : q < 7) : shArr[2 * q]? = some (.string (SH.getD q (⟨#[]⟩, ⟨#[]⟩)).1) ∧ shArr[2 * q + 1]? = some (.string (SH.getD q (⟨#[]⟩, ⟨#[]⟩)).2) := by
  rcases (by omega : q = 0 ∨ q = 1 ∨ q = 2 ∨ q = 3 ∨ q = 4 ∨ q = 5 ∨ q = 6) with rfl | rfl | rfl | rfl | rfl | rfl | rfl <;> exact ⟨rfl, rfl⟩

/-! ### Slices of a row of attributes -/
theorem slice_to (g N c m : Nat) (hm : m ≤ c) (W : World) : (Instr.slice 101 (.slice (some ⟨g, 0, none⟩) N c) none (some (.int .i64 (m : Int))) none).run Tryz.prog W = .ok (.slice (some ⟨g, 0, none⟩) m c) W := by
  have hc : (0 : Int) ≤ (m : Int) ∧ (m : Int) ≤ (c : Int) := by omega
  simp [Instr.slice, run_underlying Tryz.underlying101, Instr.sliceBounds, Instr.sliceBound, asIntOf, Result.andThen, hc]
  rw [if_pos hm]
  show Result.ok (Value.slice (if c = 0 then some ⟨g, 0, none⟩ else some ((⟨g, 0, none⟩ : Addr).add 0)) m c) W = _
  have he : (⟨g, 0, none⟩ : Addr).add 0 = ⟨g, 0, none⟩ := by simp [Addr.add]
  rw [he]
  simp
theorem slice_from (g N c m : Nat) (hm : m + 1 ≤ N) (hc : N ≤ c) : ∃ p : Addr, (∀ W, (Instr.slice 101 (.slice (some ⟨g, 0, none⟩) N c) (some (.int .i64 ((m : Int) + 1))) none none).run Tryz.prog W = .ok (.slice (some p) (N - (m + 1)) (c - (m + 1))) W) ∧ (m + 1 < N → p = ⟨g, (m + 1) * 3, none⟩) := by
  refine ⟨if c - (m + 1) = 0 then ⟨g, 0, none⟩ else ⟨g, (m + 1) * 3, none⟩, fun W => ?_, fun h => by rw [if_neg (by omega)]⟩
  have h1 : ((m : Int) + 1) = ((m + 1 : Nat) : Int) := by omega
  have h2 : (0 : Int) ≤ ((m + 1 : Nat) : Int) ∧ ((m + 1 : Nat) : Int) ≤ (N : Int) ∧ (N : Int) ≤ (c : Int) := by omega
  rw [h1]
  generalize m + 1 = k at *
  simp [Instr.slice, run_underlying Tryz.underlying101, Instr.sliceBounds, Instr.sliceBound, asIntOf, Result.andThen, h2]
  rw [if_pos hm]
  have ha : (⟨g, 0, none⟩ : Addr).add (k * 3) = ⟨g, k * 3, none⟩ := by
    unfold Addr.add
    split
    · omega
    · simp
  show Result.ok (Value.slice (if c = k then some ⟨g, 0, none⟩ else some ((⟨g, 0, none⟩ : Addr).add (k * 3))) (N - k) (c - k)) W = _
  rw [ha]
  by_cases hk : c = k
  · subst hk; simp
  · rw [if_neg hk, if_neg (by omega)]
end Go.Proofs.YtflpajbcomhkpaaGreatDoor
namespace Go.Proofs.YtflpajbcomhkpaaGreatDoor
open Go.ChangeShapes Go.WideShapes Go.ChangeAt Go.RowKit Go.ChangeMaps Go.Deep

def AtOk (a : At) : Prop := a.1.size ≤ 9223372036854775807 ∧ a.2.2.size ≤ 9223372036854775807 ∧ -9223372036854775808 ≤ a.2.1 ∧ a.2.1 ≤ 9223372036854775807
def RdnOk (r : List At) : Prop := r.length ≤ 9223372036854775807 ∧ ∀ i, i < r.length → AtOk (r.getD i noAt)
def NameOk (n : Nm) : Prop := n.length ≤ 9223372036854775807 ∧ ∀ i, i < n.length → RdnOk (n.getD i [])

theorem getD_map_range {α : Type} (f : Nat → α) (n i : Nat) (h : i < n) (d : α) : ((List.range n).map f).getD i d = f i := by
  rw [List.getD_eq_getElem?_getD, List.getElem?_map, List.getElem?_range h]; rfl
set_option maxRecDepth 10000 in
/-- One attribute, of three cells. -/
theorem open_at {H : Type} {enc : TypeId × Value → H} {W : World} {n : Nat} {cs : List Value} {x : DataW H × List MemPlace} (h : DataW.trod enc Tryz.prog W 0 (fun _ => true) true n 103 cs = some x) :
    ∃ t : At, cs = [.string t.1, .int .i64 t.2.1, .string t.2.2] ∧ AtOk t := by
  obtain ⟨xs, k, _, _, hl, hlen, hfd⟩ := DataW.trod_struct Tryz.underlying103 h
  have c1 : Tryz.prog.cellsOf 3 = 1 := by kernel_rfl
  have c2 : Tryz.prog.cellsOf 9 = 1 := by kernel_rfl
  have c3 : Tryz.prog.cellsOf 103 = 3 := by kernel_rfl
  have hlen3 : xs.length = 3 := hlen
  have hs3 : cs.length = 3 := hl.trans c3
  match xs, hlen3 with
  | [y0, y1, y2], _ =>
    match cs, hs3 with
    | [z0, z1, z2], _ =>
      have g0 : DataW.trod enc Tryz.prog W 0 (fun _ => true) true k 9 (([z0, z1, z2].drop 0).take (Tryz.prog.cellsOf 9)) = some y0 := hfd 0 _ rfl
      rw [c2] at g0
      obtain ⟨s0, e0, _, w0⟩ := DataW.trod_string Tryz.underlying9 g0
      have g1 : DataW.trod enc Tryz.prog W 0 (fun _ => true) true k 3 (([z0, z1, z2].drop 1).take (Tryz.prog.cellsOf 3)) = some y1 := hfd 1 _ rfl
      rw [c1] at g1
      obtain ⟨n1, e1, _, w1⟩ := DataW.trod_int Tryz.underlying3 g1
      have g2 : DataW.trod enc Tryz.prog W 0 (fun _ => true) true k 9 (([z0, z1, z2].drop 2).take (Tryz.prog.cellsOf 9)) = some y2 := hfd 2 _ rfl
      rw [c2] at g2
      obtain ⟨s2, e2, _, w2⟩ := DataW.trod_string Tryz.underlying9 g2
      have r0 : z0 = .string s0 := by simpa using e0
      have r1 : z1 = .int .i64 n1 := by simpa using e1
      have r2 : z2 = .string s2 := by simpa using e2
      have b1 := bounds_i64 w1
      refine ⟨(s0, n1, s2), by rw [r0, r1, r2], ?_, ?_, ?_, ?_⟩
      · show s0.size ≤ _
        unfold maxLen at w0; omega
      · show s2.size ≤ _
        unfold maxLen at w2; omega
      · exact b1.1
      · exact b1.2
set_option maxRecDepth 10000 in
theorem open_ats {H : Type} {enc : TypeId × Value → H} {W : World} {n : Nat} {z : Value} {x : DataW H × List MemPlace} (h : DataW.trod enc Tryz.prog W 0 (fun _ => true) true n 101 [z] = some x) :
    ∃ a c, ∃ l : List At, z = .slice a l.length c ∧ l.length ≤ c ∧ ALies W a l ∧ RdnOk l := by
  have c3 : Tryz.prog.cellsOf 103 = 3 := by kernel_rfl
  rcases open_slice Tryz.underlying101 h with ⟨hcs, _⟩ | ⟨a, len, cap, m, k, D, Pl, hcs, _, hl, hm, hmm, _, hx⟩
  · exact ⟨none, 0, [], by simpa using hcs, by simp, .inl rfl, by simp, fun i hi => absurd hi (Nat.not_lt_zero _)⟩
  · have hlm : len ≤ m := by rw [hmm]; split <;> omega
    obtain ⟨f, hf⟩ := choose_lt (α := At) (n := len) (p := fun i t => AtOk t ∧ W.cell? (a.add (i * 3)) = some (.string t.1) ∧ W.cell? (a.add (i * 3 + 1)) = some (.int .i64 t.2.1) ∧ W.cell? (a.add (i * 3 + 2)) = some (.string t.2.2)) (fun i hi => by
      obtain ⟨cs', h1, h2⟩ := hx i (by omega)
      obtain ⟨t, rfl, ht⟩ := open_at h2
      rw [c3] at h1
      obtain ⟨_, _, hc⟩ := World.cells?_some h1
      have e0 := hc 0 (by omega)
      have e1 := hc 1 (by omega)
      have e2 := hc 2 (by omega)
      rw [add_add] at e0 e1 e2
      exact ⟨t, ht, by simpa using e0, by simpa using e1, by simpa using e2⟩)
    refine ⟨some a, cap, (List.range len).map f, by simpa using hcs, by simpa using hl, ?_, by simp; unfold maxLen at hm; omega, fun i hi => ?_⟩
    · by_cases h0 : len = 0
      · exact .inl (by rw [h0]; rfl)
      · obtain ⟨b, off, spot⟩ := a
        have hspot : spot = none := by
          have := (hf 0 (by omega)).2.1
          simpa [Addr.add] using World.cell?_spot this
        subst hspot
        refine .inr ⟨b, off, rfl, fun i hi => ?_⟩
        simp at hi
        rw [getD_map_range _ _ _ hi]
        have hh := (hf i hi).2
        rw [Go.WideShapes.add_plain, Go.WideShapes.add_plain, Go.WideShapes.add_plain] at hh
        simpa [Nat.add_assoc] using hh
    · simp at hi
      rw [getD_map_range _ _ _ hi]
      exact (hf i hi).1
set_option maxRecDepth 10000 in
theorem open_rdns {H : Type} {enc : TypeId × Value → H} {W : World} {n : Nat} {z : Value} {x : DataW H × List MemPlace} (h : DataW.trod enc Tryz.prog W 0 (fun _ => true) true n 28 [z] = some x) :
    ∃ a c, ∃ l : Nm, z = .slice a l.length c ∧ l.length ≤ c ∧ RLies W a l ∧ NameOk l := by
  have c1 : Tryz.prog.cellsOf 101 = 1 := by kernel_rfl
  rcases open_slice1 Tryz.underlying28 c1 h with ⟨hcs, _⟩ | ⟨a, len, cap, m, k, V, D, Pl, hcs, _, hl, hm, hmm, _, hx⟩
  · exact ⟨none, 0, [], by simpa using hcs, by simp, .inl rfl, by simp, fun i hi => absurd hi (Nat.not_lt_zero _)⟩
  · have hlm : len ≤ m := by rw [hmm]; split <;> omega
    obtain ⟨f, hf⟩ := choose_lt (α := List At) (n := len) (p := fun i r => RdnOk r ∧ ∃ a' c', W.cell? (a.add i) = some (.slice a' r.length c') ∧ r.length ≤ c' ∧ ALies W a' r) (fun i hi => by
      obtain ⟨h1, h2⟩ := hx i (by omega)
      obtain ⟨a', c', l, e, hl3, hl, hk⟩ := open_ats h2
      exact ⟨l, hk, a', c', by rw [← e]; exact h1, hl3, hl⟩)
    refine ⟨some a, cap, (List.range len).map f, by simpa using hcs, by simpa using hl, ?_, by simp; unfold maxLen at hm; omega, fun i hi => ?_⟩
    · by_cases h0 : len = 0
      · exact .inl (by rw [h0]; rfl)
      · obtain ⟨b, off, spot⟩ := a
        have hspot : spot = none := by
          obtain ⟨_, _, _, q, _⟩ := hf 0 (by omega)
          simpa [Addr.add] using World.cell?_spot q
        subst hspot
        refine .inr ⟨b, off, rfl, fun i hi => ?_⟩
        simp at hi
        rw [getD_map_range _ _ _ hi]
        obtain ⟨_, a', c', q1, q3, q2⟩ := hf i hi
        rw [Go.WideShapes.add_plain] at q1
        exact ⟨a', c', q1, q3, q2⟩
    · simp at hi
      rw [getD_map_range _ _ _ hi]
      exact (hf i hi).1
end Go.Proofs.YtflpajbcomhkpaaGreatDoor
namespace Go.Proofs.YtflpajbcomhkpaaGreatDoor
open Go.RowKit

/-- A row of attributes of a call's own: its cells, and that they may be written. -/
theorem OwnA.open {w : World} {B : Nat} {v : Value} {l : List At} (h : OwnA w B v l) (h0 : l ≠ []) : ∃ g c, v = .slice (some ⟨g, 0, none⟩) l.length c ∧ B ≤ g ∧ g < w.heap.size ∧ (∀ j, w.frozen? ⟨g, j, none⟩ = false) ∧
    ∀ i, i < l.length → w.cell? ⟨g, i * 3, none⟩ = some (.string (l.getD i noAt).1) ∧ w.cell? ⟨g, i * 3 + 1, none⟩ = some (.int .i64 (l.getD i noAt).2.1) ∧ w.cell? ⟨g, i * 3 + 2, none⟩ = some (.string (l.getD i noAt).2.2) := by
  obtain ⟨a, c, hv, hc, hl⟩ := h.lies
  rcases h.2 with ⟨_, h1⟩ | ⟨g, cap, cur, hv', hB, hg, _⟩
  · exact absurd (List.eq_nil_of_length_eq_zero h1) h0
  · rw [hv] at hv'
    obtain ⟨rfl, rfl⟩ : a = some ⟨g, 0, none⟩ ∧ c = cap := by simpa using hv'
    refine ⟨g, c, hv, hB, (Array.getElem?_eq_some_iff.1 hg).1, fun j => Lib.frozen_of_heap hg j, fun i hi => ?_⟩
    rcases hl with e | ⟨b, o, e, hh⟩
    · exact absurd e h0
    · obtain ⟨rfl, rfl⟩ : g = b ∧ 0 = o := by simpa using e
      simpa using hh i hi

/-! ### A parameter of type api.Attribute -/
end Go.Proofs.YtflpajbcomhkpaaGreatDoor
