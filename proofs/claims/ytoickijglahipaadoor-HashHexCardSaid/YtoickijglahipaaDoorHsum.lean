/-
  The contracts of hash.Sum, hash.Short, hash.Start and the stream's Len: for every list of strings of fewer than 2^61 bytes together, the SHA-256 of its strings, one after the other.
-/
import Derived.Test.YtoickijglahipaaDoorSum
namespace Go.Proofs.YtoickijglahipaaDoor
open Go.RowKit

def cat (ss : List ByteArray) : List UInt8 := ss.flatMap fun s => s.data.toList
theorem cat_nil : cat [] = [] := rfl
theorem cat_append (a b : List ByteArray) : cat (a ++ b) = cat a ++ cat b := by simp [cat]
theorem cat_take_succ (ss : List ByteArray) (k : Nat) (h : k < ss.length) : cat (ss.take (k + 1)) = cat (ss.take k) ++ (ss.getD k ByteArray.empty).data.toList := by
  rw [List.take_succ_eq_append_getElem h, cat_append]
  simp [cat, h]
theorem cat_take_le (ss : List ByteArray) (k : Nat) : (cat (ss.take k)).length ≤ (cat ss).length := by
  have : cat ss = cat (ss.take k) ++ cat (ss.drop k) := by rw [← cat_append, List.take_append_drop]
  rw [this, List.length_append]; omega

/-- The slice value v reads as the strings ss. -/
def Reads (w : World) (v : Value) (ss : List ByteArray) : Prop := ∃ a cap, v = .slice a ss.length cap ∧ (ss = [] ∨ ∃ b o, a = some ⟨b, o, none⟩ ∧ ∀ i, i < ss.length → w.cell? ⟨b, o + i, none⟩ = some (.string (ss.getD i ByteArray.empty)))
theorem Reads.old {w w' : World} {v : Value} {ss : List ByteArray} (h : Reads w v ss) (hb : Below w.heap.size w w') : Reads w' v ss := by
  obtain ⟨a, cap, rfl, h⟩ := h
  refine ⟨a, cap, rfl, ?_⟩
  rcases h with h | ⟨b, o, rfl, h⟩
  · exact Or.inl h
  · exact Or.inr ⟨b, o, rfl, fun i hi => (hb.cell (p := ⟨b, o + i, none⟩) (block_lt_of_cell (h i hi))).trans (h i hi)⟩

def zSt : St := ⟨0, 0, 0, 0, 0, 0, 0, 0⟩
theorem zeroStr : ∀ w, (zeroValue 40).run Tryd.prog w = .ok (.agg (strRow zSt (List.replicate 64 0) 0)) w := by intro w; kernel_rfl
theorem isStr_new (w : World) : IsStr 40 (w.alloc (.cells (strRow zSt (List.replicate 64 0) 0) 40)) w.heap.size [] :=
  ⟨zSt, List.replicate 64 0, by simp, heap_alloc_new _ _, by simp, rfl⟩
theorem below_of_grown {B : Nat} {a w w' : World} {p : Nat} (h : Below B a w) (hg : w.grownBy w' (some p)) (hB : B ≤ w.heap.size) (hp : B ≤ p) : Below B a w' :=
  h.grown hg hB (fun k e => by obtain rfl := Option.some.inj e; exact hp)

set_option maxRecDepth 100000 in
set_option maxHeartbeats 1000000 in
theorem hsum_core (a0 : Option Addr) (cap : Nat) (ss : List ByteArray) (w : World) (hv : ss = [] ∨ ∃ b o, a0 = some ⟨b, o, none⟩ ∧ ∀ i, i < ss.length → w.cell? ⟨b, o + i, none⟩ = some (.string (ss.getD i ByteArray.empty)))
    (hn : ss.length < 4611686018427387904) (hK : Holds w 0 kWords) (hm : (cat ss).length < 2305843009213693952) :
    Calls Tryd.prog 10 #[.slice a0 ss.length cap] w fun e w' => e = .returned (.string ⟨(sha (cat ss)).toArray⟩) ∧ Below w.heap.size w w' := by
  have h0 := hK.lt
  obtain ⟨n, hln⟩ : ∃ n, n = ss.length := ⟨_, rfl⟩
  rw [← hln] at hn ⊢
  have HLN := Lib.hid hln
  have HV := Lib.hid hv
  clear hln hv
  go_enter Tryd.func10, Tryd.ntmps10
  go_wp2_with (refine wpList_alloc_row rfl 40 rfl (strRow zSt (List.replicate 64 0) 0) zeroStr ?_)
  go_loopw [8] (fun i wr => ∃ k : Nat, k ≤ n ∧ i = .int .i64 k ∧ IsStr 40 wr w.heap.size (cat (ss.take k)) ∧ Below w.heap.size w wr ∧ Holds wr 0 kWords) (fun i _ => n - (intOf i).toNat)
  case atStart => exact ⟨0, Nat.zero_le _, rfl, isStr_new w, (Below.refl _ _).alloc (Nat.le_refl _) _, hK.old ((Below.refl _ _).alloc (Nat.le_refl _) _)⟩
  case round =>
    obtain ⟨k, hk, rfl, hs, hb, hKr⟩ := hrel
    have HS := Lib.hid hs
    have HB := Lib.hid hb
    have HK := Lib.hid hKr
    clear hs hb hKr
    by_cases hlt : k < n
    · have hd : decide ((k : Int) < (n : Int)) = true := by simp; omega
      obtain ⟨b, o, ha, hc⟩ : ∃ b o, a0 = some ⟨b, o, none⟩ ∧ wr.cell? ⟨b, o + k, none⟩ = some (.string (ss.getD k ByteArray.empty)) := by
        rcases HV.out with h | ⟨b, o, h1, h2⟩
        · have := HLN.out; rw [h] at this; simp at this; omega
        · exact ⟨b, o, h1, (HB.out.cell (p := ⟨b, o + k, none⟩) (block_lt_of_cell (h2 k (by rw [← HLN.out]; exact hlt)))).trans (h2 k (by rw [← HLN.out]; exact hlt))⟩
      obtain ⟨x, hx⟩ : ∃ x, x = ss.getD k ByteArray.empty := ⟨_, rfl⟩
      rw [← hx] at hc
      have HX := Lib.hid hx
      clear hx
      subst ha
      have hsz : (cat (ss.take k)).length + x.size < 4611686018427387904 := by
        have h1 := cat_take_succ ss k (by rw [← HLN.out]; exact hlt)
        have h2 := cat_take_le ss (k + 1)
        rw [h1, List.length_append, ← HX.out] at h2
        have h3 : x.data.toList.length = x.size := rfl
        omega
      have HSZ := Lib.hid hsz
      clear hsz
      go_wp2_with (go_at_call 19; (with_reducible refine (write_any w.heap.size x (cat (ss.take k)) _ HS.out HK.out (by omega) HSZ.out).mono ?_); rintro e w1 ⟨rfl, hs1, hg1⟩; have HS1 := Lib.hid hs1; have HG1 := Lib.hid hg1; clear hs1 hg1)
      go_roundw
      case rel =>
        refine ⟨k + 1, by omega, by go_num, ?_, below_of_grown HB.out HG1.out HB.out.size (Nat.le_refl _), HK.out.grown HG1.out (by omega)⟩
        rw [cat_take_succ ss k (by rw [← HLN.out]; exact hlt), ← HX.out]; exact HS1.out
      case measure => simp [intOf]; omega
    · have ek : k = n := by omega
      subst ek
      have hd : decide ((k : Int) < (k : Int)) = false := by simp
      go_wp2_with (go_at_call 20; (with_reducible refine (sum_any w.heap.size (cat (ss.take k)) _ HS.out HK.out (Nat.lt_of_le_of_lt (cat_take_le ss k) hm)).mono ?_); rintro e w1 ⟨rfl, hb1⟩; have HB1 := Lib.hid hb1; clear hb1)
      go_ret
      have et : ss.take k = ss := List.take_of_length_le (by rw [← HLN.out]; exact Nat.le_refl _)
      refine ⟨?_, HB.out.trans (HB1.out.mono HB.out.size)⟩
      rw [et]; rfl

theorem hsum_any (v : Value) (ss : List ByteArray) (w : World) (hv : Reads w v ss) (hn : ss.length < 4611686018427387904) (hK : Holds w 0 kWords) (hm : (cat ss).length < 2305843009213693952) :
    Calls Tryd.prog 10 #[v] w fun e w' => e = .returned (.string ⟨(sha (cat ss)).toArray⟩) ∧ Below w.heap.size w w' := by
  obtain ⟨a, cap, rfl, h⟩ := hv
  exact hsum_core a cap ss w h hn hK hm

def shaStr (m : List UInt8) : ByteArray := ⟨(sha m).toArray⟩
theorem sha_length (m : List UInt8) : (sha m).length = 32 := by unfold sha; exact stBytes_length _
theorem shaStr_size (m : List UInt8) : (shaStr m).size = 32 := by
  show (sha m).toArray.size = 32
  rw [List.size_toArray, sha_length]
def shortStr (m : List UInt8) : ByteArray := ⟨((sha m).take 16).toArray⟩
theorem short_extract (m : List UInt8) : (shaStr m).extract 0 16 = shortStr m := by
  unfold shaStr shortStr
  apply ByteArray.ext
  simp

set_option maxHeartbeats 400000 in
theorem short_any (v : Value) (ss : List ByteArray) (w : World) (hv : Reads w v ss) (hn : ss.length < 4611686018427387904) (hK : Holds w 0 kWords) (hm : (cat ss).length < 2305843009213693952) :
    Calls Tryd.prog 12 #[v] w fun e w' => e = .returned (.string (shortStr (cat ss))) ∧ Below w.heap.size w w' := by
  have HV := Lib.hid hv
  have HK := Lib.hid hK
  have HM := Lib.hid hm
  have hsz : (shaStr (cat ss)).size = 32 := shaStr_size _
  have hex := short_extract (cat ss)
  clear hv hK hm
  go_enter Tryd.func12, Tryd.ntmps12
  go_wp2_with (go_at_call 10; refine (hsum_any v ss _ HV.out hn HK.out HM.out).mono ?_; rintro e w1 ⟨he, hb1⟩; obtain rfl : e = .returned (.string (shaStr (cat ss))) := he; have HB1 := Lib.hid hb1; clear hb1)
  go_ret
  exact ⟨rfl, HB1.out⟩

set_option maxHeartbeats 400000 in
theorem start_any (w : World) :
    Calls Tryd.prog 18 #[] w fun e w' => e = .returned (.pointer (some ⟨w.heap.size, 0, none⟩)) ∧ IsStr 40 w' w.heap.size [] ∧ Below w.heap.size w w' := by
  have hz := zeroStr
  go_enter Tryd.func18, Tryd.ntmps18
  go_wp2
  go_ret
  exact ⟨rfl, isStr_new w, (Below.refl _ _).alloc (Nat.le_refl _) _⟩

set_option maxHeartbeats 400000 in
theorem len_any (p : Nat) (m : List UInt8) (w : World) (hs : IsStr 40 w p m) :
    Calls Tryd.prog 21 #[.pointer (some ⟨p, 0, none⟩)] w fun e w' => e = .returned (.int .i64 (m.length : Nat)) ∧ w = w' := by
  obtain ⟨s, blk, hl, hg, _, _⟩ := hs
  have hlen := str_len hl hg
  clear hl hg
  go_enter Tryd.func21, Tryd.ntmps21
  go_wp2
  go_ret
  exact ⟨rfl, rfl⟩
end Go.Proofs.YtoickijglahipaaDoor
