/-
  What Wrap writes is read, whatever stands behind it; what One accepts is what Wrap writes. Nothing is claimed of the program here.
  Nothing is left of this text.
  Elements that Wrap writes, in ascending order, one after the other: List reads them back, and they ascend.
  Nothing is left of this text.
  Elements, and what is read of them; attributes, relative names and names, and their encodings: each determines the other. Nothing is claimed of the program here.
  What is encoded is decoded, apart from the order of attributes; what is decoded is encoded as it was. Nothing is claimed of the program here.
  One-time signatures without a program: the digits of a digest, the steps of a chain, and that of the digits of two digests neither row is at most the other. Nothing is claimed of the program here.
  One-time signatures without a program: keys, signatures and what a signature leads to, over any hash of one size. Nothing is claimed of the program here.
  Trees of one-time keys without a program: nodes, siblings, the way from a leaf to the root. Nothing is claimed of the program here.
-/
import Derived.Test.YtpmlkofceidnjaaDoorAao
import Derived.Test.YtpmlkofceidnjaaDoorAaf
import Derived.Test.YtpmlkofceidnjaaDoorAam
import Derived.Test.YtpmlkofceidnjaaDoorAan
import Derived.Test.YtpmlkofceidnjaaDoorAaa
namespace Go.Proofs.YtpmlkofceidnjaaDoor
open Go.RowKit

theorem rd_len_le {b : ByteArray} (h : rdErr b = 0) : (rd b).2.2 ≤ 131072 := by
  obtain ⟨_, _, h2, _, h4⟩ := rd_cases h
  rw [h4]
  simp only
  revert h2
  unfold lnAt
  repeat' split
  all_goals first | exact fun x => absurd x (by decide) | (intro _; simp only; omega)
theorem ofNat_small {n : Nat} (h : n < 256) : (UInt8.ofNat n).toNat = n := by simp; omega

/-- What Wrap has written is read, whatever stands behind it. -/
theorem rd_wrap {b : ByteArray} {t : Nat} {c d : List UInt8} (ht : t < 256) (h1 : t % 32 ≠ 31) (hc : c.length ≤ 131072) (hb : b.data.toList = wrapL t c ++ d) : rd b = (0, 1 + lsz c.length, c.length) := by
  have hu := u8at_list_t hb
  have hsz := size_list hb
  have hw : wrapL t c ++ d = UInt8.ofNat t :: (lenO c.length ++ (c ++ d)) := by unfold wrapL; simp
  rw [hw] at hu hsz
  have e0 : u8at b 0 = t := by rw [hu 0]; exact ofNat_small ht
  have hl : b.size = 1 + lsz c.length + c.length + d.length := by rw [hsz]; simp [lenO_length]; omega
  have hz := lsz_le c.length
  obtain ⟨n, hn⟩ : ∃ n, n = c.length := ⟨_, rfl⟩
  rw [← hn] at hc hu hl hz ⊢
  have key : lnAt b 1 = (n, lsz n, 0) := by
    unfold lnAt
    rw [if_neg (show ¬ b.size ≤ 1 by omega)]
    have hcs := lsz_cases n
    by_cases c1 : lsz n = 1
    · have e1 : u8at b 1 = n := by
        rw [hu 1]; unfold lenO; rw [if_pos c1]; exact ofNat_small (by omega)
      rw [e1, if_pos (by omega), c1]
    · have e1 : u8at b 1 = 127 + lsz n := by
        rw [hu 1]; unfold lenO; rw [if_neg c1]; exact ofNat_small (by omega)
      obtain ⟨k, hk⟩ : ∃ k, lsz n = 1 + k := ⟨lsz n - 1, by omega⟩
      have e2 : 127 + lsz n - 128 = k := by omega
      have eo : lenO n = UInt8.ofNat (127 + lsz n) :: octs n k := by unfold lenO; rw [if_neg c1, show lsz n - 1 = k by omega]
      have hle := least_ok (v := n) (k := k) (by omega) (by omega) hk
      have ev : be b (1 + 1) k = n := by
        rw [eo] at hu
        rcases (by omega : k = 1 ∨ k = 2 ∨ k = 3) with rfl | rfl | rfl
        · have a2 : u8at b 2 = n % 256 := by rw [hu 2]; show (UInt8.ofNat (n / 256 ^ 0)).toNat = _; simp
          show 256 * 0 + u8at b 2 = n
          omega
        · have a2 : u8at b 2 = n / 256 % 256 := by rw [hu 2]; show (UInt8.ofNat (n / 256 ^ 1)).toNat = _; simp
          have a3 : u8at b 3 = n % 256 := by rw [hu 3]; show (UInt8.ofNat (n / 256 ^ 0)).toNat = _; simp
          show 256 * (256 * 0 + u8at b 2) + u8at b 3 = n
          omega
        · have a2 : u8at b 2 = n / 65536 % 256 := by rw [hu 2]; show (UInt8.ofNat (n / 256 ^ 2)).toNat = _; simp
          have a3 : u8at b 3 = n / 256 % 256 := by rw [hu 3]; show (UInt8.ofNat (n / 256 ^ 1)).toNat = _; simp
          have a4 : u8at b 4 = n % 256 := by rw [hu 4]; show (UInt8.ofNat (n / 256 ^ 0)).toNat = _; simp
          show 256 * (256 * (256 * 0 + u8at b 2) + u8at b 3) + u8at b 4 = n
          omega
      rw [e1, if_neg (by omega), if_neg (by omega), e2, if_neg (by omega), ev, if_neg (by omega), hk]
  rw [rd_mk (b := b) (by omega) (by rw [e0]; exact h1) (by rw [key]) (by rw [key]; simp only; omega), key]

theorem take_wrap (t : Nat) (c d : List UInt8) : (wrapL t c ++ d).take (1 + lsz c.length + c.length) = wrapL t c := by
  have : (wrapL t c).length = 1 + lsz c.length + c.length := by unfold wrapL; simp [lenO_length]; omega
  rw [List.take_append_of_le_length (by omega), List.take_of_length_le (by omega)]
theorem drop_wrap (t : Nat) (c d : List UInt8) : (wrapL t c ++ d).drop (1 + lsz c.length + c.length) = d := by
  have : (wrapL t c).length = 1 + lsz c.length + c.length := by unfold wrapL; simp [lenO_length]; omega
  rw [← this, List.drop_left]
theorem mid_wrap (t : Nat) (c d : List UInt8) : ((wrapL t c ++ d).drop (1 + lsz c.length)).take c.length = c := by
  have h : wrapL t c ++ d = (UInt8.ofNat t :: lenO c.length) ++ (c ++ d) := by unfold wrapL; simp
  have h2 : (UInt8.ofNat t :: lenO c.length).length = 1 + lsz c.length := by simp [lenO_length]; omega
  rw [h, ← h2, List.drop_left, List.take_left]
theorem ext_list_t {a b : ByteArray} (h : a.data.toList = b.data.toList) : a = b := ByteArray.ext (Array.toList_inj.1 h)

/-- .. so that the element has these parts. -/
theorem read_wrap {b : ByteArray} {t : Nat} {c d : List UInt8} (ht : t < 256) (h1 : t % 32 ≠ 31) (hc : c.length ≤ 131072) (hb : b.data.toList = wrapL t c ++ d) :
    rdVal b = .tuple #[.agg #[.int .i64 ((t : Nat) : Int), .string ⟨c.toArray⟩, .string ⟨(wrapL t c).toArray⟩], .string ⟨d.toArray⟩, .int .i64 0] := by
  have h := rd_wrap ht h1 hc hb
  have he : rdErr b = 0 := by unfold rdErr; rw [h]
  have hsz : b.size = 1 + lsz c.length + c.length + d.length := by rw [size_list hb]; unfold wrapL; simp [lenO_length]; omega
  have e0 : rdTag b = t := by
    unfold rdTag
    rw [u8at_list_t hb 0]
    exact ofNat_small ht
  have e1 : rdContent b = ⟨c.toArray⟩ := by
    apply ext_list_t
    unfold rdContent
    rw [data_extract, h, hb]
    simp only
    rw [show 1 + lsz c.length + c.length - (1 + lsz c.length) = c.length by omega, mid_wrap]
  have e2 : rdRaw b = ⟨(wrapL t c).toArray⟩ := by
    apply ext_list_t
    unfold rdRaw
    rw [data_extract, h, hb]
    simp only [List.drop_zero, Nat.sub_zero]
    exact take_wrap t c d
  have e3 : rdRest b = ⟨d.toArray⟩ := by
    apply ext_list_t
    unfold rdRest
    rw [data_extract, h, hb]
    simp only
    rw [drop_wrap]
    exact List.take_of_length_le (by omega)
  rw [rdVal_good he, e0, e1, e2, e3]

/-- What One accepts is what Wrap writes for its parts. -/
theorem wrap_one {b : ByteArray} (h : oneErr b = 0) : wrapVal ((rdTag b : Nat) : Int) (cat_t [rdContent b]) = .tuple #[.string b, .int .i64 0] ∧ rdRaw b = b := by
  have he := oneErr_rd h
  have hs := oneErr_size h
  have hlen := rd_len_le he
  obtain ⟨_, h1, _, _, _⟩ := rd_cases he
  have hd : (rdContent b).data.toList = b.data.toList.drop (rd b).2.1 := by
    unfold rdContent
    rw [data_extract]
    refine List.take_of_length_le ?_
    rw [List.length_drop]
    show b.size - _ ≤ _
    omega
  have hc : cat_t [rdContent b] = b.data.toList.drop (rd b).2.1 := by simp [cat_t, hd]
  have hn : (b.data.toList.drop (rd b).2.1).length = (rd b).2.2 := by
    rw [List.length_drop]
    show b.size - _ = _
    omega
  have ht := rdTag_lt b
  constructor
  · have e : wrapErr ((rdTag b : Nat) : Int) (cat_t [rdContent b]).length = 0 := by
      rw [hc, hn]
      unfold wrapErr
      rw [if_neg (by unfold rdTag at ht ⊢; omega), if_neg (by omega)]
    unfold wrapVal wrapStr
    rw [e, if_pos rfl, hc]
    have e2 : wrapL ((rdTag b : Nat) : Int).toNat (b.data.toList.drop (rd b).2.1) = b.data.toList := by
      unfold wrapL
      rw [hn]
      exact (head_back he).symm
    rw [e2]
    rfl
  · apply ext_list_t
    unfold rdRaw
    rw [data_extract, hs, List.drop_zero, Nat.sub_zero]
    exact List.take_of_length_le (Nat.le_refl _)
end Go.Proofs.YtpmlkofceidnjaaDoor

namespace Go.Proofs.YtpmlkofceidnjaaDoor
open Go.RowKit

/-- The element of OCTETS with the content s: its bytes, and what the law writes. -/
def encS (s : ByteArray) : ByteArray := ⟨(wrapL 4 s.data.toList).toArray⟩
def elS (s : ByteArray) : El := (4, s, encS s)
/-- Two values share no block. -/
def Apart (u v : Value) : Prop := ∀ g, u.ownBlock = some g → v.ownBlock = some g → False
theorem Apart.symm {u v : Value} (h : Apart u v) : Apart v u := fun g a b => h g b a
theorem own_keep {w w' : World} {B : Nat} {e : TypeId} {k n : Nat} {u v : Value} {xs : List Value} (hu : w.ownsRow B e k u n xs) (hg : w.grownBy w' v.ownBlock) (hd : Apart u v) : w'.ownsRow B e k u n xs := by
  refine World.ownsRow.kept hu hg ?_
  cases hb : u.ownBlock with
  | none => exact .inl rfl
  | some g => exact .inr fun e => hd g hb e.symm
theorem apart_step {w : World} {B : Nat} {e : TypeId} {k n : Nat} {u v v' : Value} {xs : List Value} (hu : w.ownsRow B e k u n xs) (hd : Apart u v) (hat : v'.ownBlock = v.ownBlock ∨ v'.ownBlock = some w.heap.size) : Apart u v' := by
  intro g h1 h2
  rcases hat with hat | hat
  · exact hd g h1 (by rw [← hat]; exact h2)
  · have h3 := (World.ownsRow.lt hu g h1).2
    rw [hat] at h2
    have := Option.some.inj h2
    omega
/-- The law's three slices. -/
def Tri (w wr : World) (v1 v2 v3 : Value) (L1 L2 : List ByteArray) (L3 : List El) : Prop :=
  OwnS_t wr w.heap.size v1 L1 ∧ OwnS_t wr w.heap.size v2 L2 ∧ OwnE wr w.heap.size v3 L3 ∧ Apart v1 v2 ∧ Apart v1 v3 ∧ Apart v2 v3 ∧ Below w.heap.size w wr
theorem Tri.nil (w : World) : Tri w w (.slice none 0 0) (.slice none 0 0) (.slice none 0 0) [] [] [] :=
  ⟨World.ownsRow_nil _ _ _ _, World.ownsRow_nil _ _ _ _, World.ownsRow_nil _ _ _ _, fun _ h => by simp [Value.ownBlock] at h, fun _ h => by simp [Value.ownBlock] at h, fun _ h => by simp [Value.ownBlock] at h, Below.refl _ _⟩
theorem Tri.below {w wr w' : World} {v1 v2 v3 : Value} {L1 L2 : List ByteArray} {L3 : List El} (h : Tri w wr v1 v2 v3 L1 L2 L3) (hb : Below wr.heap.size wr w') : Tri w w' v1 v2 v3 L1 L2 L3 := by
  obtain ⟨a, b, c, d, e, f, g⟩ := h
  exact ⟨own_below a hb, own_below b hb, own_below c hb, d, e, f, below_next_t g hb⟩
theorem Tri.alloc {w wr : World} {v1 v2 v3 : Value} {L1 L2 : List ByteArray} {L3 : List El} (h : Tri w wr v1 v2 v3 L1 L2 L3) (o : Obj) : Tri w (wr.alloc o) v1 v2 v3 L1 L2 L3 :=
  h.below (belowNew wr o)
theorem Tri.first {w wr w2 : World} {v1 v2 v3 v' : Value} {L1 L2 : List ByteArray} {L3 : List El} {s : ByteArray} (h : Tri w wr v1 v2 v3 L1 L2 L3)
    (ho : w2.ownsRow w.heap.size 9 1 v' (L1.length + 1) (L1.map Value.string ++ [Value.string s])) (hg : wr.grownBy w2 v1.ownBlock) (hat : v'.ownBlock = v1.ownBlock ∨ v'.ownBlock = some wr.heap.size) :
    Tri w w2 v' v2 v3 (L1 ++ [s]) L2 L3 := by
  obtain ⟨a, b, c, d, e, f, g⟩ := h
  refine ⟨?_, own_keep b hg d.symm, own_keep c hg e.symm, (apart_step b d.symm hat).symm, (apart_step c e.symm hat).symm, f, g.grown hg g.size (fun k e => (World.ownsRow.lt a k e).1)⟩
  unfold OwnS_t
  simpa using ho
theorem Tri.third {w wr w2 : World} {v1 v2 v3 v' : Value} {L1 L2 : List ByteArray} {L3 : List El} {x : El} (h : Tri w wr v1 v2 v3 L1 L2 L3)
    (ho : w2.ownsRow w.heap.size 46 3 v' (L3.length + 1) (elsCells L3 ++ elCells x)) (hg : wr.grownBy w2 v3.ownBlock) (hat : v'.ownBlock = v3.ownBlock ∨ v'.ownBlock = some wr.heap.size) :
    Tri w w2 v1 v2 v' L1 L2 (L3 ++ [x]) := by
  obtain ⟨a, b, c, d, e, f, g⟩ := h
  refine ⟨own_keep a hg e, own_keep b hg f, ?_, d, apart_step a e hat, apart_step b f hat, g.grown hg g.size (fun k e => (World.ownsRow.lt c k e).1)⟩
  unfold OwnE
  rw [List.length_append, elsCells_snoc]
  exact ho
theorem Tri.next {w wr : World} {v1 v2 v3 : Value} {D ss : List ByteArray} {s x : ByteArray} {k : Nat} (h : Tri w wr v1 v2 v3 (D ++ [s]) (D.map encS ++ [x]) (D.map elS ++ [(4, s, x)])) (hx : x = encS s) (hD : D = ss.take k) (hk : k < ss.length)
    (hs : s = ss.getD k ByteArray.empty) : Tri w wr v1 v2 v3 (ss.take (k + 1)) ((ss.take (k + 1)).map encS) ((ss.take (k + 1)).map elS) := by
  have e : ss.take (k + 1) = D ++ [s] := by
    rw [List.take_succ_eq_append_getElem hk, hs, hD]
    simp [hk]
  rw [e, List.map_append, List.map_append]
  subst hx
  exact h
theorem OwnS_t.reads {w : World} {B : Nat} {v : Value} {D : List ByteArray} (h : OwnS_t w B v D) : Reads w v D := h.lies

theorem OwnE.old {B : Nat} {w w' : World} {v : Value} {l : List El} (h : OwnE w B v l) (hb : Below w.heap.size w w') : OwnE w' B v l := own_below h hb
end Go.Proofs.YtpmlkofceidnjaaDoor

namespace Go.Proofs.YtpmlkofceidnjaaDoor
open Go.RowKit

/-! ### Elements -/
theorem wr1_list {t : Nat} {c : ByteArray} (ht : t < 256) (h1 : t % 32 ≠ 31) (hc : c.size ≤ 131072) : (wr1 ((t : Nat) : Int) c).data.toList = wrapL t c.data.toList := by
  have e : wrapErr ((t : Nat) : Int) c.data.toList.length = 0 := by
    have : c.data.toList.length = c.size := rfl
    unfold wrapErr
    rw [if_neg (by omega), if_neg (by omega)]
  unfold wr1 wrapStr
  rw [e, if_pos rfl]
  rfl
/-- An element as Wrap writes it. -/
def OkE (e : El) : Prop := e.1 < 256 ∧ e.1 % 32 ≠ 31 ∧ e.2.1.size ≤ 131072 ∧ e.2.2 = wr1 ((e.1 : Nat) : Int) e.2.1
def raws (L : List El) : List (List UInt8) := L.map fun e => e.2.2.data.toList
theorem lst_els : ∀ (L : List El), (∀ e ∈ L, OkE e) → ∀ b : ByteArray, b.data.toList = (raws L).flatten → lst b = (L, 0)
  | [], _, b, hb => lst_nil (by rw [size_list hb]; rfl)
  | e :: L, h, b, hb => by
    obtain ⟨t, c, r⟩ := e
    obtain ⟨ht, h1, hc, hr⟩ := h _ List.mem_cons_self
    simp only at ht h1 hc hr
    have hw := wr1_list ht h1 hc
    have hb2 : b.data.toList = wrapL t c.data.toList ++ (raws L).flatten := by
      rw [hb, raws, List.map_cons, List.flatten_cons, hr, hw]; rfl
    have hrd := rd_wrap ht h1 hc hb2
    have he : rdErr b = 0 := by unfold rdErr; rw [hrd]
    have hv := read_wrap ht h1 hc hb2
    rw [rdVal_good he] at hv
    have h0 : b.size ≠ 0 := by
      rw [size_list hb2]
      unfold wrapL
      simp
    simp only [Value.tuple.injEq, Array.mk.injEq, List.cons.injEq, Value.agg.injEq, Value.string.injEq, Value.int.injEq] at hv
    have e1 : rdTag b = t := by have := hv.1.1.2; omega
    have e2 : rdRaw b = r := by rw [hv.1.2.2.1, hr]; exact (ext_list_t (by rw [hw])).symm
    have e3 : rdContent b = c := by rw [hv.1.2.1]
    have e4 : rdRest b = ⟨(raws L).flatten.toArray⟩ := hv.2.1
    have i1 := lst_els L (fun x hx => h x (List.mem_cons_of_mem _ hx)) (rdRest b) (by rw [e4])
    rw [lst_step h0 he, i1, if_pos rfl]
    unfold rdElem
    rw [e1, e2, e3]
theorem rd_parts {b : ByteArray} (h : rdErr b = 0) : OkE (rdElem b) ∧ b.data.toList = (rdRaw b).data.toList ++ (rdRest b).data.toList := by
  have hh := head_back h
  obtain ⟨h2, h5, hs, hx, h0⟩ := rd_ok h
  have hlen := rd_len_le h
  have ht := rdTag_lt b
  obtain ⟨n, hn⟩ : ∃ n, n = (rd b).2.2 := ⟨_, rfl⟩
  obtain ⟨p, hp⟩ : ∃ p, p = (rd b).2.1 := ⟨_, rfl⟩
  have hraw : (rdRaw b).data.toList = b.data.toList.take (p + n) := by unfold rdRaw; rw [data_extract, ← hn, ← hp]; simp
  have hrest : (rdRest b).data.toList = b.data.toList.drop (p + n) := by
    unfold rdRest
    rw [data_extract, ← hn, ← hp]
    refine List.take_of_length_le ?_
    rw [List.length_drop]
    exact Nat.le_refl _
  have hcon : (rdContent b).data.toList = (b.data.toList.drop p).take n := by unfold rdContent; rw [data_extract, ← hn, ← hp]; congr 1; omega
  rw [← hn, ← hp] at hh
  rw [← hn] at hlen
  rw [← hn, ← hp] at hs
  obtain ⟨D, hD⟩ : ∃ D, D = b.data.toList.drop p := ⟨_, rfl⟩
  have hDl : D.length = b.size - p := by rw [hD, List.length_drop]; rfl
  rw [← hD] at hh hcon
  have hl := congrArg List.length hh
  have hlb : b.data.toList.length = b.size := rfl
  rw [hlb, List.length_cons, List.length_append, hDl] at hl
  have hc : (rdContent b).size = n := by
    have : (rdContent b).data.toList.length = (rdContent b).size := rfl
    rw [← this, hcon, List.length_take, hDl]
    omega
  refine ⟨⟨ht, hx, by show (rdContent b).size ≤ _; omega, ?_⟩, by rw [hraw, hrest, List.take_append_drop]⟩
  show rdRaw b = wr1 _ (rdContent b)
  apply ext_list_t
  show _ = (wr1 ((rdTag b : Nat) : Int) (rdContent b)).data.toList
  rw [wr1_list ht hx (by omega), hraw, hcon]
  have hcl : (D.take n).length = n := by rw [← hcon]; exact hc
  unfold wrapL
  rw [hcl]
  conv => lhs; rw [hh]
  rw [show p + n = (lenO n).length + n + 1 by omega, List.take_succ_cons, List.take_append]
  congr 1
  rw [List.take_of_length_le (by omega), show (lenO n).length + n - (lenO n).length = n by omega]
theorem els_lst (k : Nat) : ∀ (b : ByteArray) (L : List El), b.size ≤ k → lst b = (L, 0) → (∀ e ∈ L, OkE e) ∧ b.data.toList = (raws L).flatten := by
  induction k with
  | zero =>
    intro b L hk h
    have h0 : b.size = 0 := by omega
    rw [lst_nil h0] at h
    obtain rfl : L = [] := (Prod.mk.inj h).1.symm
    exact ⟨fun e he => (by cases he), List.length_eq_zero_iff.1 h0⟩
  | succ k ih =>
    intro b L hk h
    by_cases h0 : b.size = 0
    · rw [lst_nil h0] at h
      obtain rfl : L = [] := (Prod.mk.inj h).1.symm
      exact ⟨fun e he => (by cases he), List.length_eq_zero_iff.1 h0⟩
    · by_cases he : rdErr b = 0
      · obtain ⟨p1, p2⟩ := rd_parts he
        have hsz := rdRest_size he
        rw [lst_step h0 he] at h
        by_cases hr : (lst (rdRest b)).2 = 0
        · rw [if_pos hr] at h
          obtain rfl : L = rdElem b :: (lst (rdRest b)).1 := (Prod.mk.inj h).1.symm
          obtain ⟨M, hM⟩ : ∃ M, M = (lst (rdRest b)).1 := ⟨_, rfl⟩
          have h3 : lst (rdRest b) = (M, 0) := by rw [hM, ← hr]
          rw [← hM]
          obtain ⟨i1, i2⟩ := ih (rdRest b) M (by omega) h3
          refine ⟨fun e hm => ?_, ?_⟩
          · rcases List.mem_cons.1 hm with rfl | hm
            · exact p1
            · exact i1 e hm
          · rw [p2, i2]; rfl
        · rw [if_neg hr] at h
          exact absurd (Prod.mk.inj h).2 hr
      · rw [lst_bad h0 he] at h
        exact absurd (Prod.mk.inj h).2 he

/-! ### Attributes -/
/-! ### Object identifiers -/
theorem oid_there {s : ByteArray} (h : oidB s = true) : oidD (oidS s) = some s := by
  obtain ⟨a, ha⟩ := oidB_true h
  rw [oidS_yes ha, oidD_yes (a := a) ⟨ha.1, strOf_list _⟩]
  exact congrArg some (strOf_of (oid_txt ha)).symm
theorem oid_back {c id : ByteArray} (h : oidD c = some id) : oidS id = c ∧ oidB id = true := by
  by_cases hx : ∃ a, Dec c.data.toList a
  · obtain ⟨a, ha⟩ := hx
    rw [oidD_yes ha] at h
    obtain rfl := Option.some.inj h
    have ho : Oid (strOf (txt a)).data.toList a := by rw [strOf_list]; exact oid_of ha.1
    exact ⟨by rw [oidS_yes ho]; exact (strOf_of ha.2).symm, oidB_yes ho⟩
  · rw [oidD_no (fun a k => hx ⟨a, k⟩)] at h
    cases h
end Go.Proofs.YtpmlkofceidnjaaDoor
namespace Go.Proofs.YtpmlkofceidnjaaDoor
open Go.RowKit

theorem size_of_list {c : ByteArray} {l : List UInt8} (h : c.data.toList = l) : c.size = l.length := by rw [← h]; rfl
/-! ### Relative names -/
/-! ### Names -/
theorem one_of_lst {b : ByteArray} {e : El} (h : lst b = ([e], 0)) : oneErr b = 0 ∧ rdElem b = e := by
  by_cases h0 : b.size = 0
  · rw [lst_nil h0] at h; cases (Prod.mk.inj h).1
  · by_cases he : rdErr b = 0
    · rw [lst_step h0 he] at h
      by_cases hr : (lst (rdRest b)).2 = 0
      · rw [if_pos hr] at h
        obtain ⟨h1, h2⟩ := List.cons.inj (Prod.mk.inj h).1
        obtain ⟨_, h3⟩ := els_lst _ (rdRest b) [] (Nat.le_refl _) (by rw [← hr, ← h2])
        have h4 : (rdRest b).size = 0 := size_of_list h3
        exact ⟨by unfold oneErr; rw [if_neg (fun k => k he), if_neg (fun k => k h4)], h1⟩
      · rw [if_neg hr] at h; exact absurd (Prod.mk.inj h).2 hr
    · rw [lst_bad h0 he] at h; exact absurd (Prod.mk.inj h).2 he
theorem read_one {b c : ByteArray} (hc : c.size ≤ 131072) (hb : b = wr1 ((48 : Nat) : Int) c) : oneErr b = 0 ∧ rdTag b = 48 ∧ rdContent b = c := by
  have hok : OkE (48, c, b) := ⟨by show 48 < 256; omega, by show 48 % 32 ≠ 31; omega, hc, hb⟩
  obtain ⟨h1, he⟩ := one_of_lst (lst_els [(48, c, b)] (fun e hm => by rw [List.mem_singleton.1 hm]; exact hok) b (by unfold raws; simp))
  unfold rdElem at he
  obtain ⟨e1, e2⟩ := Prod.mk.inj he
  obtain ⟨e3, _⟩ := Prod.mk.inj e2
  exact ⟨h1, e1, e3⟩
end Go.Proofs.YtpmlkofceidnjaaDoor
namespace Go.Proofs.YtpmlkofceidnjaaDoor
open Go.RowKit

/-! ### Chains -/
/-- n steps from position p. -/
def stepsF (f : Nat → ByteArray → ByteArray) : Nat → Nat → ByteArray → ByteArray
  | _, 0, v => v
  | p, n + 1, v => stepsF f (p + 1) n (f p v)
end Go.Proofs.YtpmlkofceidnjaaDoor
namespace Go.Proofs.YtpmlkofceidnjaaDoor
open Go.RowKit

/-- A number as four bytes, as one byte. -/
def b4 (n : Nat) : List UInt8 := [UInt8.ofNat (n / 16777216 % 256), UInt8.ofNat (n / 65536 % 256), UInt8.ofNat (n / 256 % 256), UInt8.ofNat (n % 256)]
def b1 (n : Nat) : List UInt8 := [UInt8.ofNat (n % 256)]
/-- One step of a chain from position p. -/
def stepQ (H : List UInt8 → ByteArray) (id : List UInt8) (leaf c p : Nat) (v : ByteArray) : ByteArray := H (67 :: (id ++ b4 leaf ++ b1 c ++ b1 p ++ v.data.toList))
def secQ (H : List UInt8 → ByteArray) (seed : List UInt8) (leaf c : Nat) : ByteArray := H (83 :: (seed ++ b4 leaf ++ b1 c))
end Go.Proofs.YtpmlkofceidnjaaDoor
namespace Go.Proofs.YtpmlkofceidnjaaDoor
open Go.RowKit

def joinQ (H : List UInt8 → ByteArray) (id : List UInt8) (l i : Nat) (x y : ByteArray) : ByteArray := H (78 :: (id ++ b1 l ++ b4 i ++ x.data.toList ++ y.data.toList))
/-- Node i of level l over the leaves' keys. -/
def nodeQ (H : List UInt8 → ByteArray) (id : List UInt8) (g : Nat → ByteArray) : Nat → Nat → ByteArray
  | 0, i => g i
  | l + 1, i => joinQ H id l i (nodeQ H id g l (2 * i)) (nodeQ H id g l (2 * i + 1))
end Go.Proofs.YtpmlkofceidnjaaDoor
