/-
  Rows of bytes that can be read and written: what a conversion of a string lays, and stores into it. Nothing is claimed of the program here.
  The contracts of the reference's Lower, Fold and MatchText; nothing that was there before the call has changed.
  DNS names, patterns, bases and mail addresses as lists of bytes; when one lies within another, and that what lies within two bases makes them nested. Nothing is claimed of the program here.
  Addresses and ranges as lists of bytes: when one lies within another. Nothing is claimed of the program here.
  Mail addresses, DNS names and addresses that are the same lie within the same bases; how long a text of each kind can be. Nothing is claimed of the program here.
  The two tables of unicode/utf8: what the program's text lays, and that calls which leave old memory alone leave them. Nothing is claimed of the program here.
-/
import Derived.Test.YtjdfgalcnbnobaaGreatDoorPab
import Derived.Laws.IdiomStrings
import Derived.Test.YtjdfgalcnbnobaaGreatDoorPaa
import Derived.Lib.DecodeN
namespace Go.Proofs.YtjdfgalcnbnobaaGreatDoor
open Go.RowKit

/-- The bytes l lie from the beginning of block g on, and may be written. -/
def BL (w : World) (g : Nat) (l : List UInt8) : Prop := g < w.heap.size ∧ ∀ j, j < l.length → w.cell? ⟨g, j, none⟩ = some (.int .u8 (((l.getD j 0).toNat : Nat) : Int)) ∧ w.frozen? ⟨g, j, none⟩ = false
theorem addr_ne {g h i j : Nat} (e : g ≠ h) : (⟨g, i, none⟩ : Addr) ≠ ⟨h, j, none⟩ := fun k => e (by injection k)
theorem addr_ne2 {g i j : Nat} (e : i ≠ j) : (⟨g, i, none⟩ : Addr) ≠ ⟨g, j, none⟩ := fun k => e (by injection k)
theorem getD_set_same {α : Type} {l : List α} {j : Nat} (h : j < l.length) (v d : α) : (l.set j v).getD j d = v := by
  rw [List.getD_eq_getElem?_getD]; simp [h]
theorem getD_set_other {α : Type} {l : List α} {i j : Nat} (h : i ≠ j) (v d : α) : (l.set i v).getD j d = l.getD j d := by
  rw [List.getD_eq_getElem?_getD, List.getD_eq_getElem?_getD, List.getElem?_set_ne h]
theorem BL.put {w : World} {g : Nat} {l : List UInt8} (h : BL w g l) {j : Nat} (hj : j < l.length) (b : UInt8) : BL (w.setCell ⟨g, j, none⟩ (.int .u8 ((b.toNat : Nat) : Int))) g (l.set j b) := by
  refine ⟨by simpa using h.1, fun i hi => ?_⟩
  rw [List.length_set] at hi
  rw [World.frozen?_setCell]
  refine ⟨?_, (h.2 i hi).2⟩
  by_cases e : j = i
  · subst e
    rw [World.cell?_setCell_same _ _ _ (h.2 j hj).1, getD_set_same hj]
  · rw [World.cell?_setCell_other _ _ _ _ (addr_ne2 e), getD_set_other e]
    exact (h.2 i hi).1
theorem BL.other {w : World} {g : Nat} {l : List UInt8} (h : BL w g l) {k : Nat} (hk : k ≠ g) (j : Nat) (v : Value) : BL (w.setCell ⟨k, j, none⟩ v) g l := by
  refine ⟨by simpa using h.1, fun i hi => ?_⟩
  rw [World.frozen?_setCell, World.cell?_setCell_other _ _ _ _ (addr_ne hk)]
  exact h.2 i hi
theorem BL.drew {w : World} {g : Nat} {l : List UInt8} (h : BL w g l) : BL w.drew g l := h
theorem BL.new (w : World) (s : ByteArray) (cap : Nat) (t : TypeId) : BL (w.alloc (.cells (bytesRow s cap) t ((bytesRow s cap).size, (bytesRow s cap).size + 1))) w.heap.size s.data.toList := by
  refine ⟨by simp, fun j hj => ?_⟩
  have hj2 : j < s.data.size := hj
  refine ⟨?_, ?_⟩
  · rw [cell_of_row _ _ j _ _ _ (heap_alloc_new w _)]
    unfold bytesRow
    rw [Array.getElem?_append_left (by simpa using hj2)]
    rw [List.getD_eq_getElem?_getD]
    simp
    exact ⟨s.data[j], Array.getElem?_eq_getElem hj2, by rw [Array.getElem?_eq_getElem hj2]; rfl⟩
  · rw [World.frozen?_alloc_mark]
    have : (bytesRow s cap).size ≥ s.data.size := by unfold bytesRow; simp
    have h2 : ¬ (bytesRow s cap).size ≤ j := by omega
    rw [decide_eq_false h2]; rfl

theorem BL.text {w : World} {g : Nat} {l : List UInt8} (h : BL w g l) (n cap : Nat) (hn : n = l.length) : (convert 119 9 (.slice (some ⟨g, 0, none⟩) n cap)).run Tryz.prog w = .ok (.string (strOf l)) w := by
  subst hn
  refine run_convert_bytes_back w _ _ _ ⟨g, 0, none⟩ cap l Tryz.underlying119 Tryz.underlying5 Tryz.underlying9 (fun j hj => ?_)
  have hadd : (⟨g, 0, none⟩ : Addr).add j = ⟨g, j, none⟩ := by unfold Addr.add; split <;> simp_all
  rw [hadd, (h.2 j hj).1, List.getD_eq_getElem?_getD, List.getElem?_eq_getElem hj]
  rfl

theorem conv_made (L : List UInt8) (wb : World) : ∃ cap W, (convert 9 119 (.string (strOf L))).run Tryz.prog wb = .ok (.slice (some ⟨wb.heap.size, 0, none⟩) L.length cap) W ∧ BL W wb.heap.size L ∧ Below wb.heap.size wb W := by
  refine ⟨_, _, run_bytes_of_string wb 9 119 5 (strOf L) Tryz.underlying9 Tryz.underlying119 Tryz.underlying5, ?_, ?_⟩
  · exact BL.new wb.drew (strOf L) _ _
  · exact (Below.refl _ wb).drew.alloc (Nat.le_refl _) _
theorem byte_list (l : List UInt8) (k : Nat) (h : k < l.length) : l.drop k = l.getD k 0 :: l.drop (k + 1) := by
  rw [List.drop_eq_getElem_cons h, List.getD_eq_getElem?_getD, List.getElem?_eq_getElem h]
  rfl
theorem byte_at (b : ByteArray) (k : Nat) : u8at b k = (b.data.toList.getD k 0).toNat := rfl
theorem take_next_x (L : List UInt8) (k : Nat) (h : k < L.length) : L.take (k + 1) = L.take k ++ [L.getD k 0] := by
  rw [List.take_add_one, List.getD_eq_getElem?_getD, List.getElem?_eq_getElem h]
  rfl
theorem BL.putv {w : World} {g : Nat} {l : List UInt8} (h : BL w g l) {j : Nat} (hj : j < l.length) (b : UInt8) (z : Int) (hz : z = ((b.toNat : Nat) : Int)) : BL (w.setCell ⟨g, j, none⟩ (.int .u8 z)) g (l.set j b) := by
  subst hz
  exact h.put hj b
theorem BL.below {w w' : World} {g : Nat} {l : List UInt8} (h : BL w g l) (hb : Below w.heap.size w w') : BL w' g l :=
  ⟨Nat.lt_of_lt_of_le h.1 hb.size, fun j hj => ⟨(hb.cell (p := ⟨g, j, none⟩) h.1).trans (h.2 j hj).1, (hb.frozen (p := ⟨g, j, none⟩) h.1).trans (h.2 j hj).2⟩⟩
end Go.Proofs.YtjdfgalcnbnobaaGreatDoor
namespace Go.Proofs.YtjdfgalcnbnobaaGreatDoor
open Go.RowKit

/-- The bytes when the first k have been made small. -/
def lowAt (l : List UInt8) (k : Nat) : List UInt8 := (l.take k).map small ++ l.drop k
theorem lowAt_zero (l : List UInt8) : lowAt l 0 = l := by simp [lowAt]
theorem lowAt_end (l : List UInt8) {k : Nat} (h : l.length ≤ k) : lowAt l k = l.map small := by
  unfold lowAt
  rw [List.take_of_length_le h, List.drop_eq_nil_of_le h, List.append_nil]
theorem lowAt_len (l : List UInt8) (k : Nat) : (lowAt l k).length = l.length := by
  unfold lowAt
  rw [List.length_append, List.length_map, List.length_take, List.length_drop]
  omega
theorem lowAt_get (l : List UInt8) {k : Nat} (h : k < l.length) : (lowAt l k).getD k 0 = l.getD k 0 := by
  unfold lowAt
  rw [List.getD_eq_getElem?_getD, List.getElem?_append_right (by rw [List.length_map, List.length_take]; omega), List.length_map, List.length_take, List.getElem?_drop, show k + (k - min k l.length) = k by omega, ← List.getD_eq_getElem?_getD]
theorem lowAt_step (l : List UInt8) {k : Nat} (h : k < l.length) : lowAt l (k + 1) = (lowAt l k).set k (small (l.getD k 0)) := by
  unfold lowAt
  rw [take_next_x l k h, byte_list l k h, List.map_append, List.set_append_right _ _ (by rw [List.length_map, List.length_take]; omega)]
  have e : k - ((l.take k).map small).length = 0 := by rw [List.length_map, List.length_take]; omega
  rw [e]
  simp
theorem lowAt_same (l : List UInt8) {k : Nat} (h : k < l.length) (hs : small (l.getD k 0) = l.getD k 0) : lowAt l (k + 1) = lowAt l k := by
  unfold lowAt
  rw [take_next_x l k h, byte_list l k h, List.map_append, List.map_cons, hs, List.map_nil, List.append_assoc]
  rfl

set_option maxRecDepth 100000 in
set_option maxHeartbeats 2000000 in
theorem lower_any (s : ByteArray) (w : World) (hn : s.size ≤ 1099511627776) :
    Calls Tryz.prog 97 #[.string s] w fun e w' => e = .returned (.string (strOf (s.data.toList.map small))) ∧ Below w.heap.size w w' := by
  obtain ⟨L, hL⟩ : ∃ L, L = s.data.toList := ⟨_, rfl⟩
  obtain rfl : s = strOf L := by rw [hL]; exact strOf_of rfl
  rw [strOf_list]
  clear hL
  have hz : L.length ≤ 1099511627776 := hn
  obtain ⟨cap, W, hcv, hbl, hbe⟩ := conv_made L w
  have HBL0 := Lib.hid hbl
  have HB0 := Lib.hid hbe
  clear hbl hbe hn
  go_enter Tryz.func97, Tryz.ntmps97
  go_wp2_with fail
  clear hcv
  go_loopw [9] (fun i wr => ∃ k : Nat, k ≤ L.length ∧ i = .int .i64 (k : Int) ∧ BL wr w.heap.size (lowAt L k) ∧ Below w.heap.size w wr) (fun i _ => L.length - (intOf i).toNat)
  case atStart => exact ⟨0, Nat.zero_le _, rfl, by rw [lowAt_zero]; exact HBL0.out, HB0.out⟩
  case round =>
    obtain ⟨k, hk, rfl, hbl, hb⟩ := hrel
    have HBL := Lib.hid hbl
    have HB := Lib.hid hb
    have hcv := hbl.text L.length cap (lowAt_len _ _).symm
    clear hbl hb
    by_cases hlt : k < L.length
    · clear hcv
      have hd : decide ((k : Int) < (L.length : Int)) = true := by simp; omega
      have hlr : k < (lowAt L k).length := by rw [lowAt_len]; exact hlt
      have hcell := (HBL.out.2 k hlr).1
      have hfro := (HBL.out.2 k hlr).2
      have hgl := HBL.out.1
      rw [lowAt_get L hlt] at hcell
      have hst := lowAt_step L hlt
      have hsm := fun h => lowAt_same L hlt h
      obtain ⟨c, hc⟩ : ∃ c, c = L.getD k 0 := ⟨_, rfl⟩
      rw [← hc] at hcell hst hsm
      have HST := Lib.hid hst
      have HSM := Lib.hid hsm
      clear hc hst hsm
      by_cases h : 65 ≤ c.toNat ∧ c.toNat ≤ 90
      · have d1 : decide ((65 : Int) ≤ ((c.toNat : Nat) : Int)) = true := by simp; omega
        have d2 : decide (((c.toNat : Nat) : Int) ≤ 90) = true := by simp; omega
        have HE := Lib.hid (show (((c.toNat : Nat) : Int) + 32) % 256 = (((small c).toNat : Nat) : Int) by rw [small_big h]; omega)
        clear h
        go_wp2_with fail
        go_roundw
        case rel => exact ⟨k + 1, by omega, by go_num, by rw [HST.out]; exact HBL.out.putv hlr _ _ HE.out, HB.out.setCell (by simp) _⟩
        case measure => simp [intOf]; omega
      · have HN := Lib.hid (HSM.out (small_low h))
        by_cases h1 : 65 ≤ c.toNat
        · have d1 : decide ((65 : Int) ≤ ((c.toNat : Nat) : Int)) = true := by simp; omega
          have d2 : decide (((c.toNat : Nat) : Int) ≤ 90) = false := by simp; omega
          clear h
          go_wp2_with fail
          go_roundw
          case rel => exact ⟨k + 1, by omega, by go_num, by rw [HN.out]; exact HBL.out, HB.out⟩
          case measure => simp [intOf]; omega
        · have d1 : decide ((65 : Int) ≤ ((c.toNat : Nat) : Int)) = false := by simp; omega
          clear h
          go_wp2_with fail
          go_roundw
          case rel => exact ⟨k + 1, by omega, by go_num, by rw [HN.out]; exact HBL.out, HB.out⟩
          case measure => simp [intOf]; omega
    · have ek : k = L.length := by omega
      subst ek
      have hd : decide ((L.length : Int) < (L.length : Int)) = false := by simp
      rw [lowAt_end L (Nat.le_refl _)] at hcv
      go_wp2_with fail
      go_ret
      exact ⟨rfl, HB.out⟩
end Go.Proofs.YtjdfgalcnbnobaaGreatDoor
namespace Go.Proofs.YtjdfgalcnbnobaaGreatDoor
open Go.RowKit

def lowL (l : List UInt8) : List UInt8 := l.map small
def pcsL (c : UInt8) (l : List UInt8) : List (List UInt8) := (pcsS c (strOf l)).map (·.data.toList)
theorem pcsL_spl (c : UInt8) (l : List UInt8) : Spl c l (pcsL c l) := pcsS_spl c (strOf l)
def lbl (p : List UInt8) : Bool := decide (1 ≤ p.length) && decide (p.length ≤ 63) && p.head? != some 45 && p.getLast? != some 45 && p.all (fun c => alnum c.toNat || c == 45)
def dnsB (l : List UInt8) : Bool := decide (l.length ≤ 128) && (pcsL 46 l).all lbl
def patB (l : List UInt8) : Bool := dnsB l || (decide (l.length ≤ 128) && decide (2 < l.length) && decide (l.take 2 = [42, 46]) && dnsB (l.drop 2) && decide (2 < (pcsL 46 l).length))
def baseB (l : List UInt8) : Bool := decide (l = []) || dnsB l
def alikeB (a b : List UInt8) : Bool := decide (lowL a = lowL b)
def endsB (s t : List UInt8) : Bool := decide (t.length ≤ s.length) && alikeB (s.drop (s.length - t.length)) t
def dnsWithinB (s b : List UInt8) : Bool := (decide (s = []) || patB s) && baseB b && (decide (b = []) || alikeB s b || endsB s (46 :: b))
def signsL : List UInt8 := [33, 35, 36, 37, 38, 39, 42, 43, 45, 47, 61, 63, 94, 95, 96, 123, 124, 125, 126, 46]
def atK (l : List UInt8) : Nat := (l.takeWhile (fun c => c != 64)).length
/-- The local part is well-formed: allowed bytes, and no two points one after the other. -/
def localB : List UInt8 → Bool
  | [] => true
  | c :: r => (alnum c.toNat || signsL.contains c) && !(c == 46 && r.head? == some 46) && localB r
def mailB (l : List UInt8) : Bool := decide (l.length ≤ 128) && decide (1 ≤ atK l) && decide (atK l ≤ 64) && decide (atK l < l.length) && dnsB (l.drop (atK l + 1)) && l.head? != some 46 && (l.take (atK l)).getLast? != some 46 && localB (l.take (atK l))
def localP (l : List UInt8) : List UInt8 := l.take (atK l)
def domP (l : List UInt8) : List UInt8 := l.drop (atK l + 1)
def mailBaseB (l : List UInt8) : Bool := mailB l || dnsB l || (decide (l.length ≤ 128) && decide (1 < l.length) && l.head? == some 46 && dnsB (l.drop 1))
def mailMatchB (a b : List UInt8) : Bool := mailB a && mailB b && decide (localP a = localP b) && alikeB (domP a) (domP b)
def relB (d b : List UInt8) : Bool := alikeB d b || (b.head? == some 46 && endsB d b)
def mailWithinB (s b : List UInt8) : Bool :=
  mailBaseB b && (if mailB s = true then (if mailB b = true then mailMatchB s b else relB (domP s) b) else mailBaseB s && !mailB b && relB s b)

/-! ### Ends -/
/-- One list lies within another one: it is the other, or ends with a point and it; everything lies within nothing. -/
def Rel (S X : List UInt8) : Prop := X = [] ∨ S = X ∨ (46 :: X) <:+ S
theorem Rel.trans {A B C : List UInt8} (h : Rel A B) (k : Rel B C) : Rel A C := by
  rcases k with k | k | k
  · exact .inl k
  · exact k ▸ h
  · rcases h with h | h | h
    · rw [h] at k
      have := k.length_le
      simp at this
    · exact .inr (.inr (h ▸ k))
    · exact .inr (.inr (k.trans ((List.suffix_cons _ _).trans h)))
def RelM (D B : List UInt8) : Prop := D = B ∨ (B.head? = some 46 ∧ B <:+ D)
theorem RelM.trans {A B C : List UInt8} (h : RelM A B) (k : RelM B C) : RelM A C := by
  rcases k with k | ⟨k1, k2⟩
  · exact k ▸ h
  · rcases h with h | ⟨_, h2⟩
    · exact .inr ⟨k1, h ▸ k2⟩
    · exact .inr ⟨k1, k2.trans h2⟩
end Go.Proofs.YtjdfgalcnbnobaaGreatDoor
namespace Go.Proofs.YtjdfgalcnbnobaaGreatDoor
open Go.RowKit

def addrB (b : List UInt8) : Bool := decide (b.length = 4) || decide (b.length = 16)
def bitAt (b : List UInt8) (at' i : Nat) : Bool := decide ((b.getD (at' + i / 8) 0).toNat / 2 ^ (7 - i % 8) % 2 = 1)
/-- A bit of the mask; a bit of the address. -/
def mbit (b : List UInt8) (i : Nat) : Bool := bitAt b (b.length / 2) i
def abit (b : List UInt8) (i : Nat) : Bool := bitAt b 0 i
def onesTo (b : List UInt8) (i : Nat) : Bool := (List.range i).all (mbit b)
def bitOk (b : List UInt8) (i : Nat) : Bool := if mbit b i = true then onesTo b i else !abit b i
def rangeB (b : List UInt8) : Bool := (decide (b.length = 8) || decide (b.length = 32)) && (List.range (8 * (b.length / 2))).all (bitOk b)
def wholeB (a r : List UInt8) : Bool := addrB a && decide (a.length = r.length / 2)
def byteIn (a r : List UInt8) (h i : Nat) : Bool := decide (a.getD i 0 &&& r.getD (h + i) 0 = r.getD i 0) && (wholeB a r || decide (a.getD (h + i) 0 &&& r.getD (h + i) 0 = r.getD (h + i) 0))
def addrWithinB (a r : List UInt8) : Bool := rangeB r && (wholeB a r || (rangeB a && decide (a.length = r.length))) && (List.range (r.length / 2)).all (byteIn a r (r.length / 2))

/-! ### Ranges with a mask of some bits -/
end Go.Proofs.YtjdfgalcnbnobaaGreatDoor
namespace Go.Proofs.YtjdfgalcnbnobaaGreatDoor
open Go.RowKit

/-! ### Lengths -/
end Go.Proofs.YtjdfgalcnbnobaaGreatDoor
namespace Go.Proofs.YtjdfgalcnbnobaaGreatDoor
open Go.RowKit

/-! ### The tables -/
/-- The two tables of unicode/utf8 lie as the library's text lays them. -/
def Tab (w : World) : Prop :=
  (∀ c, c < 256 → w.cell? ⟨6, c, none⟩ = some (.int .u8 (Lib.firstT c))) ∧
  (∀ i, i < 16 → w.cell? ⟨7, 2 * i, none⟩ = some (.int .u8 (Lib.accLo i)) ∧ w.cell? ⟨7, 2 * i + 1, none⟩ = some (.int .u8 (Lib.accHi i)))
theorem Tab.lt {w : World} (h : Tab w) : 6 < w.heap.size ∧ 7 < w.heap.size :=
  ⟨block_lt_of_cell (h.1 0 (by omega)), block_lt_of_cell (h.2 0 (by omega)).1⟩
theorem Tab.below {w w' : World} (h : Tab w) (hb : Below w.heap.size w w') : Tab w' :=
  ⟨fun c hc => (hb.cell (p := ⟨6, c, none⟩) h.lt.1).trans (h.1 c hc),
   fun i hi => ⟨(hb.cell (p := ⟨7, 2 * i, none⟩) h.lt.2).trans (h.2 i hi).1, (hb.cell (p := ⟨7, 2 * i + 1, none⟩) h.lt.2).trans (h.2 i hi).2⟩⟩
theorem Tab.alloc {w : World} (h : Tab w) (o : Obj) : Tab (w.alloc o) := h.below (belowNew w o)
theorem Tab.drawn {w : World} (h : Tab w) (n : Nat) : Tab (w.drewN n) := h
end Go.Proofs.YtjdfgalcnbnobaaGreatDoor
