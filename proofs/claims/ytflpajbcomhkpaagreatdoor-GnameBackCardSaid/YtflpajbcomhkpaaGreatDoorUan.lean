/-
  The contracts of the reference's Mail and MailBase: whether a text is a mail address; whether it is a base of such.
  The contract of the reference's MailMatch: whether two mail addresses are the same.
  The contract of the reference's MailWithin: whether a mail address or a base lies within a base.
  The contracts of the reference's Address and Range: whether bytes are an address; whether they are a range.
  The contract of the reference's AddressWithin: whether an address or a range lies within a range.
  The contract of certpathmade's attribute: one of twelve attributes; of the memory that was there only the deck's block has changed.
-/
import Derived.Test.YtflpajbcomhkpaaGreatDoorUam
import Derived.Test.YtflpajbcomhkpaaGreatDoorUae
import Derived.Test.YtflpajbcomhkpaaGreatDoorUal
import Derived.Lib.QuietBelow
import Derived.BigQuiet
import Derived.Test.YtflpajbcomhkpaaGreatDoorUai
namespace Go.Proofs.YtflpajbcomhkpaaGreatDoor
open Go.RowKit

theorem rparts_no {L : List UInt8} (h : mailB L = false) (hL : L.length ≤ 150000) (w : World) :
    Calls Tryz.prog 109 #[.string (strOf L)] w fun e w' => e = .returned (.tuple #[.string ⟨#[]⟩, .string ⟨#[]⟩, .bool false]) ∧ Below w.heap.size w w' := by
  have := rparts_any L hL w
  rwa [partsR_no h] at this
theorem rparts_yes {L : List UInt8} (h : mailB L = true) (hL : L.length ≤ 150000) (w : World) :
    Calls Tryz.prog 109 #[.string (strOf L)] w fun e w' => e = .returned (.tuple #[.string (strOf (localP L)), .string (strOf (domP L)), .bool true]) ∧ Below w.heap.size w w' := by
  have := rparts_any L hL w
  rwa [partsR_yes h] at this
set_option maxRecDepth 100000 in
set_option maxHeartbeats 1000000 in
theorem rmail_any (L : List UInt8) (hL : L.length ≤ 150000) (w : World) :
    Calls Tryz.prog 64 #[.string (strOf L)] w fun e w' => e = .returned (.bool (mailB L)) ∧ Below w.heap.size w w' := by
  cases h : mailB L with
  | true =>
    have HP := Lib.hid (fun w => rparts_yes h hL w)
    clear h
    go_enter Tryz.func64, Tryz.ntmps64
    go_wp2_with (go_at_call 109; (with_reducible refine (HP.out _).mono ?_); rintro e w2 ⟨rfl, hb2⟩; have HB2 := Lib.hid hb2; clear hb2)
    go_ret
    exact ⟨rfl, HB2.out⟩
  | false =>
    have HP := Lib.hid (fun w => rparts_no h hL w)
    clear h
    go_enter Tryz.func64, Tryz.ntmps64
    go_wp2_with (go_at_call 109; (with_reducible refine (HP.out _).mono ?_); rintro e w2 ⟨rfl, hb2⟩; have HB2 := Lib.hid hb2; clear hb2)
    go_ret
    exact ⟨rfl, HB2.out⟩
end Go.Proofs.YtflpajbcomhkpaaGreatDoor
namespace Go.Proofs.YtflpajbcomhkpaaGreatDoor
open Go.RowKit

theorem domP_len (L : List UInt8) : (domP L).length ≤ L.length := by unfold domP; rw [List.length_drop]; omega
theorem same_is {a b : List UInt8} (h : a = b) : ((strOf a).toList == (strOf b).toList) = true ∧ ((strOf a).toList = (strOf b).toList) = True := by subst h; simp
theorem same_not {a b : List UInt8} (h : a ≠ b) : ((strOf a).toList == (strOf b).toList) = false ∧ ((strOf a).toList = (strOf b).toList) = False := by
  rw [toList_of, toList_of]
  simp [h]

set_option maxRecDepth 100000 in
set_option maxHeartbeats 2000000 in
theorem rmm_any (a b : List UInt8) (ha : a.length ≤ 150000) (hb : b.length ≤ 150000) (w : World) :
    Calls Tryz.prog 65 #[.string (strOf a), .string (strOf b)] w fun e w' => e = .returned (.bool (mailMatchB a b)) ∧ Below w.heap.size w w' := by
  cases h1 : mailB a with
  | false =>
    have HP := Lib.hid (fun w => rparts_no h1 ha w)
    have HE := Lib.hid (show mailMatchB a b = false by unfold mailMatchB; rw [h1]; rfl)
    clear h1
    cases h2 : mailB b with
    | false =>
      have HQ := Lib.hid (fun w => rparts_no h2 hb w)
      clear h2
      go_enter Tryz.func65, Tryz.ntmps65
      go_wp2_with (first
        | (go_at_call 109; (with_reducible refine (HP.out _).mono ?_); rintro e w1 ⟨rfl, hb1⟩; have HB1 := Lib.hid hb1; clear hb1)
        | (go_at_call 109; (with_reducible refine (HQ.out _).mono ?_); rintro e w2 ⟨rfl, hb2⟩; have HB2 := Lib.hid hb2; clear hb2))
      go_ret
      exact ⟨by rw [HE.out]; rfl, below_next HB1.out HB2.out⟩
    | true =>
      have HQ := Lib.hid (fun w => rparts_yes h2 hb w)
      clear h2
      go_enter Tryz.func65, Tryz.ntmps65
      go_wp2_with (first
        | (go_at_call 109; (with_reducible refine (HP.out _).mono ?_); rintro e w1 ⟨rfl, hb1⟩; have HB1 := Lib.hid hb1; clear hb1)
        | (go_at_call 109; (with_reducible refine (HQ.out _).mono ?_); rintro e w2 ⟨rfl, hb2⟩; have HB2 := Lib.hid hb2; clear hb2))
      go_ret
      exact ⟨by rw [HE.out]; rfl, below_next HB1.out HB2.out⟩
  | true =>
    have HP := Lib.hid (fun w => rparts_yes h1 ha w)
    cases h2 : mailB b with
    | false =>
      have HE := Lib.hid (show mailMatchB a b = false by unfold mailMatchB; rw [h2]; simp)
      have HQ := Lib.hid (fun w => rparts_no h2 hb w)
      clear h1 h2
      go_enter Tryz.func65, Tryz.ntmps65
      go_wp2_with (first
        | (go_at_call 109; (with_reducible refine (HP.out _).mono ?_); rintro e w1 ⟨rfl, hb1⟩; have HB1 := Lib.hid hb1; clear hb1)
        | (go_at_call 109; (with_reducible refine (HQ.out _).mono ?_); rintro e w2 ⟨rfl, hb2⟩; have HB2 := Lib.hid hb2; clear hb2))
      go_ret
      exact ⟨by rw [HE.out]; rfl, below_next HB1.out HB2.out⟩
    | true =>
      have HQ := Lib.hid (fun w => rparts_yes h2 hb w)
      have HE := Lib.hid (show mailMatchB a b = (decide (localP a = localP b) && alikeB (domP a) (domP b)) by unfold mailMatchB; rw [h1, h2]; rfl)
      have H1 := Lib.hid (show (domP a).length ≤ 1000000 by have := domP_len a; omega)
      have H2 := Lib.hid (show (domP b).length ≤ 1000000 by have := domP_len b; omega)
      clear h1 h2
      generalize localP a = la at HP HE
      generalize localP b = lb at HQ HE
      generalize domP a = da at HP HE H1
      generalize domP b = db at HQ HE H2
      by_cases h3 : la = lb
      · obtain ⟨f1, f2⟩ := same_is h3
        have HE2 := Lib.hid (show mailMatchB a b = alikeB da db by rw [HE.out, decide_eq_true h3]; rfl)
        clear h3
        go_enter Tryz.func65, Tryz.ntmps65
        go_wp2_with (first
          | (go_at_call 109; (with_reducible refine (HP.out _).mono ?_); rintro e w1 ⟨rfl, hb1⟩; have HB1 := Lib.hid hb1; clear hb1)
          | (go_at_call 109; (with_reducible refine (HQ.out _).mono ?_); rintro e w2 ⟨rfl, hb2⟩; have HB2 := Lib.hid hb2; clear hb2)
          | (go_at_call 66; (with_reducible refine (ralike_any da db H1.out H2.out _).mono ?_); rintro e w3 ⟨rfl, hb3⟩; have HB3 := Lib.hid hb3; clear hb3))
        go_ret
        exact ⟨by rw [HE2.out]; rfl, below_next (below_next HB1.out HB2.out) HB3.out⟩
      · obtain ⟨f1, f2⟩ := same_not h3
        have HE2 := Lib.hid (show mailMatchB a b = false by rw [HE.out, decide_eq_false h3]; rfl)
        clear h3
        go_enter Tryz.func65, Tryz.ntmps65
        go_wp2_with (first
          | (go_at_call 109; (with_reducible refine (HP.out _).mono ?_); rintro e w1 ⟨rfl, hb1⟩; have HB1 := Lib.hid hb1; clear hb1)
          | (go_at_call 109; (with_reducible refine (HQ.out _).mono ?_); rintro e w2 ⟨rfl, hb2⟩; have HB2 := Lib.hid hb2; clear hb2))
        go_ret
        exact ⟨by rw [HE2.out]; rfl, below_next HB1.out HB2.out⟩
end Go.Proofs.YtflpajbcomhkpaaGreatDoor
namespace Go.Proofs.YtflpajbcomhkpaaGreatDoor
open Go.RowKit

end Go.Proofs.YtflpajbcomhkpaaGreatDoor
namespace Go.Proofs.YtflpajbcomhkpaaGreatDoor
open Go.RowKit

end Go.Proofs.YtflpajbcomhkpaaGreatDoor
namespace Go.Proofs.YtflpajbcomhkpaaGreatDoor
open Go.RowKit

theorem and_u8 (a b : UInt8) : bits BinOp.and .u8 ((a.toNat : Nat) : Int) ((b.toNat : Nat) : Int) = (((a &&& b).toNat : Nat) : Int) := by
  show IntKind.u8.wrap ((BitVec.ofInt 8 (a.toNat : Int) &&& BitVec.ofInt 8 (b.toNat : Int)).toNat : Int) = _
  rw [BitVec.toNat_and, BitVec.toNat_ofInt, BitVec.toNat_ofInt, UInt8.toNat_and]
  have e1 : ((a.toNat : Int) % (2 ^ 8 : Nat)).toNat = a.toNat := by
    have := a.toNat_lt
    show ((a.toNat : Int) % (256 : Nat)).toNat = a.toNat
    omega
  have e2 : ((b.toNat : Int) % (2 ^ 8 : Nat)).toNat = b.toNat := by
    have := b.toNat_lt
    show ((b.toNat : Int) % (256 : Nat)).toNat = b.toNat
    omega
  rw [e1, e2]
  have h : a.toNat &&& b.toNat ≤ a.toNat := Nat.and_le_left
  have := a.toNat_lt
  simp [IntKind.wrap, IntKind.bits, IntKind.signed]
  omega
end Go.Proofs.YtflpajbcomhkpaaGreatDoor
namespace Go.Proofs.YtflpajbcomhkpaaGreatDoor
open Go.RowKit

/-- The twelve attributes of the generator. -/
def madeL : List At := [(⟨#[50, 46, 53, 46, 52, 46, 51]⟩, 12, ⟨#[65, 110, 110]⟩), (⟨#[50, 46, 53, 46, 52, 46, 51]⟩, 19, ⟨#[32, 97, 110, 110]⟩), (⟨#[50, 46, 53, 46, 52, 46, 51]⟩, 12, ⟨#[103, 114, 195, 182, 195, 159, 101]⟩), (⟨#[50, 46, 53, 46, 52, 46, 54]⟩, 19, ⟨#[85, 83]⟩), (⟨#[50, 46, 53, 46, 52, 46, 49, 48]⟩, 19, ⟨#[69, 120, 97, 109, 112, 108, 101, 32, 32, 67, 111, 114, 112]⟩), (⟨#[50, 46, 53, 46, 52, 46, 49, 48]⟩, 12, ⟨#[101, 120, 97, 109, 112, 108, 101, 32, 99, 111, 114, 112]⟩), (⟨#[50, 46, 53, 46, 52, 46, 49, 49]⟩, 22, ⟨#[97, 44, 98, 43, 99, 61, 100, 92, 101]⟩), (⟨#[48, 46, 57, 46, 50, 51, 52, 50, 46, 49, 57, 50, 48, 48, 51, 48, 48, 46, 49, 48, 48, 46, 49, 46, 50, 53]⟩, 22, ⟨#[111, 114, 103]⟩), (⟨#[49, 46, 50, 46, 56, 52, 48, 46, 49, 49, 51, 53, 52, 57, 46, 49, 46, 57, 46, 49]⟩, 22, ⟨#[97, 110, 110, 64, 101, 120, 97, 109, 112, 108, 101, 46, 111, 114, 103]⟩), (⟨#[49, 46, 50, 46, 56, 52, 48, 46, 49, 49, 51, 53, 52, 57, 46, 49, 46, 57, 46, 49]⟩, 22, ⟨#[110, 111, 32, 97, 100, 100, 114, 101, 115, 115]⟩), (⟨#[50, 46, 53, 46, 52, 46, 57, 57]⟩, 19, ⟨#[120]⟩), (⟨#[50, 46, 53, 46, 52, 46, 55]⟩, 12, ⟨#[76]⟩)]
theorem made_cells : atsCells madeL = (.string ⟨#[50, 46, 53, 46, 52, 46, 51]⟩ :: .int .i64 12 :: .string ⟨#[65, 110, 110]⟩ :: .string ⟨#[50, 46, 53, 46, 52, 46, 51]⟩ :: .int .i64 19 :: .string ⟨#[32, 97, 110, 110]⟩ :: .string ⟨#[50, 46, 53, 46, 52, 46, 51]⟩ :: .int .i64 12 :: .string ⟨#[103, 114, 195, 182, 195, 159, 101]⟩ :: .string ⟨#[50, 46, 53, 46, 52, 46, 54]⟩ :: .int .i64 19 :: .string ⟨#[85, 83]⟩ :: .string ⟨#[50, 46, 53, 46, 52, 46, 49, 48]⟩ :: .int .i64 19 :: .string ⟨#[69, 120, 97, 109, 112, 108, 101, 32, 32, 67, 111, 114, 112]⟩ :: .string ⟨#[50, 46, 53, 46, 52, 46, 49, 48]⟩ :: .int .i64 12 :: .string ⟨#[101, 120, 97, 109, 112, 108, 101, 32, 99, 111, 114, 112]⟩ :: .string ⟨#[50, 46, 53, 46, 52, 46, 49, 49]⟩ :: .int .i64 22 :: .string ⟨#[97, 44, 98, 43, 99, 61, 100, 92, 101]⟩ :: .string ⟨#[48, 46, 57, 46, 50, 51, 52, 50, 46, 49, 57, 50, 48, 48, 51, 48, 48, 46, 49, 48, 48, 46, 49, 46, 50, 53]⟩ :: .int .i64 22 :: .string ⟨#[111, 114, 103]⟩ :: .string ⟨#[49, 46, 50, 46, 56, 52, 48, 46, 49, 49, 51, 53, 52, 57, 46, 49, 46, 57, 46, 49]⟩ :: .int .i64 22 :: .string ⟨#[97, 110, 110, 64, 101, 120, 97, 109, 112, 108, 101, 46, 111, 114, 103]⟩ :: .string ⟨#[49, 46, 50, 46, 56, 52, 48, 46, 49, 49, 51, 53, 52, 57, 46, 49, 46, 57, 46, 49]⟩ :: .int .i64 22 :: .string ⟨#[110, 111, 32, 97, 100, 100, 114, 101, 115, 115]⟩ :: .string ⟨#[50, 46, 53, 46, 52, 46, 57, 57]⟩ :: .int .i64 19 :: .string ⟨#[120]⟩ :: .string ⟨#[50, 46, 53, 46, 52, 46, 55]⟩ :: .int .i64 12 :: .string ⟨#[76]⟩ :: [] : List Value) := rfl
theorem made_own (w : World) (B : Nat) (hB : B ≤ w.heap.size) : OwnA (w.alloc (.cells ((.string ⟨#[50, 46, 53, 46, 52, 46, 51]⟩ :: .int .i64 12 :: .string ⟨#[65, 110, 110]⟩ :: .string ⟨#[50, 46, 53, 46, 52, 46, 51]⟩ :: .int .i64 19 :: .string ⟨#[32, 97, 110, 110]⟩ :: .string ⟨#[50, 46, 53, 46, 52, 46, 51]⟩ :: .int .i64 12 :: .string ⟨#[103, 114, 195, 182, 195, 159, 101]⟩ :: .string ⟨#[50, 46, 53, 46, 52, 46, 54]⟩ :: .int .i64 19 :: .string ⟨#[85, 83]⟩ :: .string ⟨#[50, 46, 53, 46, 52, 46, 49, 48]⟩ :: .int .i64 19 :: .string ⟨#[69, 120, 97, 109, 112, 108, 101, 32, 32, 67, 111, 114, 112]⟩ :: .string ⟨#[50, 46, 53, 46, 52, 46, 49, 48]⟩ :: .int .i64 12 :: .string ⟨#[101, 120, 97, 109, 112, 108, 101, 32, 99, 111, 114, 112]⟩ :: .string ⟨#[50, 46, 53, 46, 52, 46, 49, 49]⟩ :: .int .i64 22 :: .string ⟨#[97, 44, 98, 43, 99, 61, 100, 92, 101]⟩ :: .string ⟨#[48, 46, 57, 46, 50, 51, 52, 50, 46, 49, 57, 50, 48, 48, 51, 48, 48, 46, 49, 48, 48, 46, 49, 46, 50, 53]⟩ :: .int .i64 22 :: .string ⟨#[111, 114, 103]⟩ :: .string ⟨#[49, 46, 50, 46, 56, 52, 48, 46, 49, 49, 51, 53, 52, 57, 46, 49, 46, 57, 46, 49]⟩ :: .int .i64 22 :: .string ⟨#[97, 110, 110, 64, 101, 120, 97, 109, 112, 108, 101, 46, 111, 114, 103]⟩ :: .string ⟨#[49, 46, 50, 46, 56, 52, 48, 46, 49, 49, 51, 53, 52, 57, 46, 49, 46, 57, 46, 49]⟩ :: .int .i64 22 :: .string ⟨#[110, 111, 32, 97, 100, 100, 114, 101, 115, 115]⟩ :: .string ⟨#[50, 46, 53, 46, 52, 46, 57, 57]⟩ :: .int .i64 19 :: .string ⟨#[120]⟩ :: .string ⟨#[50, 46, 53, 46, 52, 46, 55]⟩ :: .int .i64 12 :: .string ⟨#[76]⟩ :: [] : List Value).toArray) 103)) B (.slice (some ⟨w.heap.size, 0, none⟩) 12 12) madeL := by
  have h := World.ownsRow_lit (base := B) (e := 103) (size := 3) w ((.string ⟨#[50, 46, 53, 46, 52, 46, 51]⟩ :: .int .i64 12 :: .string ⟨#[65, 110, 110]⟩ :: .string ⟨#[50, 46, 53, 46, 52, 46, 51]⟩ :: .int .i64 19 :: .string ⟨#[32, 97, 110, 110]⟩ :: .string ⟨#[50, 46, 53, 46, 52, 46, 51]⟩ :: .int .i64 12 :: .string ⟨#[103, 114, 195, 182, 195, 159, 101]⟩ :: .string ⟨#[50, 46, 53, 46, 52, 46, 54]⟩ :: .int .i64 19 :: .string ⟨#[85, 83]⟩ :: .string ⟨#[50, 46, 53, 46, 52, 46, 49, 48]⟩ :: .int .i64 19 :: .string ⟨#[69, 120, 97, 109, 112, 108, 101, 32, 32, 67, 111, 114, 112]⟩ :: .string ⟨#[50, 46, 53, 46, 52, 46, 49, 48]⟩ :: .int .i64 12 :: .string ⟨#[101, 120, 97, 109, 112, 108, 101, 32, 99, 111, 114, 112]⟩ :: .string ⟨#[50, 46, 53, 46, 52, 46, 49, 49]⟩ :: .int .i64 22 :: .string ⟨#[97, 44, 98, 43, 99, 61, 100, 92, 101]⟩ :: .string ⟨#[48, 46, 57, 46, 50, 51, 52, 50, 46, 49, 57, 50, 48, 48, 51, 48, 48, 46, 49, 48, 48, 46, 49, 46, 50, 53]⟩ :: .int .i64 22 :: .string ⟨#[111, 114, 103]⟩ :: .string ⟨#[49, 46, 50, 46, 56, 52, 48, 46, 49, 49, 51, 53, 52, 57, 46, 49, 46, 57, 46, 49]⟩ :: .int .i64 22 :: .string ⟨#[97, 110, 110, 64, 101, 120, 97, 109, 112, 108, 101, 46, 111, 114, 103]⟩ :: .string ⟨#[49, 46, 50, 46, 56, 52, 48, 46, 49, 49, 51, 53, 52, 57, 46, 49, 46, 57, 46, 49]⟩ :: .int .i64 22 :: .string ⟨#[110, 111, 32, 97, 100, 100, 114, 101, 115, 115]⟩ :: .string ⟨#[50, 46, 53, 46, 52, 46, 57, 57]⟩ :: .int .i64 19 :: .string ⟨#[120]⟩ :: .string ⟨#[50, 46, 53, 46, 52, 46, 55]⟩ :: .int .i64 12 :: .string ⟨#[76]⟩ :: [] : List Value).toArray) 12 hB (by unfold maxLen; omega) rfl
  unfold OwnA
  rw [made_cells]
  exact h
theorem atRes1 {fn : Func} {p : Tmp} (h : fn.results = #[.cell p 103]) (tmps : Array Value) (w w0 : World) (x y z : Value)
    (hp : tmps.getD p undef = .pointer (some ⟨w0.heap.size, 0, none⟩)) (hg : w.heap[w0.heap.size]? = some (.cells #[x, y, z] 103 (0, 0))) :
    (results fn tmps).run Tryz.prog w = .ok (.agg #[x, y, z]) w :=
  results_cell_row h tmps w w0.heap.size 103 #[x, y, z] (0, 0) _ hp hg Tryz.underlying103 rfl atSize

theorem belowTwo' (w : World) (o p : Obj) : Below w.heap.size w ((w.alloc o).alloc p) := below_next (belowNew w o) (belowNew _ p)
theorem But.fresh {p g : Nat} {a b c : World} (h : But p a b) (k : But g b c) (hg : a.heap.size ≤ g) : But p a c := World.grownBy.andThen h k (fun j e => .inl (by obtain rfl := Option.some.inj e; exact hg))
theorem cell_same {w w' : World} {b : Nat} (h : w'.heap[b]? = w.heap[b]?) (o : Nat) : w'.cell? ⟨b, o, none⟩ = w.cell? ⟨b, o, none⟩ := by
  simp only [World.cell?, h]
set_option maxRecDepth 100000 in
set_option maxHeartbeats 4000000 in
theorem attr_any (p : Nat) (a : Option Addr) (cap : Nat) (zs : List Int) (k : Nat) (w : World) (h : DeckAt w p a cap zs k) (hk : k < 1000) :
    Calls Tryz.prog 70 #[.pointer (some ⟨p, 0, none⟩)] w fun e w' => ∃ r k' : Nat, r < 12 ∧ e = .returned (atV (madeL.getD r noAt)) ∧ DeckAt w' p a cap zs k' ∧ k' ≤ k + 1 ∧ But p w w' := by
  obtain ⟨W1, hW1⟩ : ∃ W1, W1 = w.alloc (.cells #[.string ⟨#[]⟩, .int .i64 0, .string ⟨#[]⟩] 103) := ⟨_, rfl⟩
  obtain ⟨W2, hW2⟩ : ∃ W2, W2 = W1.alloc (.cells ((.string ⟨#[50, 46, 53, 46, 52, 46, 51]⟩ :: .int .i64 12 :: .string ⟨#[65, 110, 110]⟩ :: .string ⟨#[50, 46, 53, 46, 52, 46, 51]⟩ :: .int .i64 19 :: .string ⟨#[32, 97, 110, 110]⟩ :: .string ⟨#[50, 46, 53, 46, 52, 46, 51]⟩ :: .int .i64 12 :: .string ⟨#[103, 114, 195, 182, 195, 159, 101]⟩ :: .string ⟨#[50, 46, 53, 46, 52, 46, 54]⟩ :: .int .i64 19 :: .string ⟨#[85, 83]⟩ :: .string ⟨#[50, 46, 53, 46, 52, 46, 49, 48]⟩ :: .int .i64 19 :: .string ⟨#[69, 120, 97, 109, 112, 108, 101, 32, 32, 67, 111, 114, 112]⟩ :: .string ⟨#[50, 46, 53, 46, 52, 46, 49, 48]⟩ :: .int .i64 12 :: .string ⟨#[101, 120, 97, 109, 112, 108, 101, 32, 99, 111, 114, 112]⟩ :: .string ⟨#[50, 46, 53, 46, 52, 46, 49, 49]⟩ :: .int .i64 22 :: .string ⟨#[97, 44, 98, 43, 99, 61, 100, 92, 101]⟩ :: .string ⟨#[48, 46, 57, 46, 50, 51, 52, 50, 46, 49, 57, 50, 48, 48, 51, 48, 48, 46, 49, 48, 48, 46, 49, 46, 50, 53]⟩ :: .int .i64 22 :: .string ⟨#[111, 114, 103]⟩ :: .string ⟨#[49, 46, 50, 46, 56, 52, 48, 46, 49, 49, 51, 53, 52, 57, 46, 49, 46, 57, 46, 49]⟩ :: .int .i64 22 :: .string ⟨#[97, 110, 110, 64, 101, 120, 97, 109, 112, 108, 101, 46, 111, 114, 103]⟩ :: .string ⟨#[49, 46, 50, 46, 56, 52, 48, 46, 49, 49, 51, 53, 52, 57, 46, 49, 46, 57, 46, 49]⟩ :: .int .i64 22 :: .string ⟨#[110, 111, 32, 97, 100, 100, 114, 101, 115, 115]⟩ :: .string ⟨#[50, 46, 53, 46, 52, 46, 57, 57]⟩ :: .int .i64 19 :: .string ⟨#[120]⟩ :: .string ⟨#[50, 46, 53, 46, 52, 46, 55]⟩ :: .int .i64 12 :: .string ⟨#[76]⟩ :: [] : List Value).toArray) 103) := ⟨_, rfl⟩
  have hz : W1.heap.size = w.heap.size + 1 := by rw [hW1]; simp
  have hb : Below w.heap.size w W2 := by rw [hW2, hW1]; exact belowTwo' w _ _
  have hl : ALies W2 (some ⟨w.heap.size + 1, 0, none⟩) madeL := by
    obtain ⟨a1, c1, e1, _, e2⟩ := (made_own W1 0 (Nat.zero_le _)).lies
    rw [hz] at e1
    obtain ⟨rfl, _⟩ : some ⟨w.heap.size + 1, 0, none⟩ = a1 ∧ 12 = c1 := by simpa [madeL] using e1
    rw [hW2]; exact e2
  have hc : W2.heap[w.heap.size]? = some (.cells #[.string ⟨#[]⟩, .int .i64 0, .string ⟨#[]⟩] 103 (0, 0)) := by
    rw [hW2]
    refine ((belowNew W1 _).block _ (by rw [hz]; omega)).trans ?_
    rw [hW1]; exact heap_alloc_new w _
  have hp := h.lt
  have HN := Lib.hid (next_any p a cap zs k 12 W2 (h.below hb) hk (by omega) (by omega))
  have HL := Lib.hid hl
  have HC := Lib.hid hc
  have HB := Lib.hid hb
  rw [hW2, hW1, show ((12 : Nat) : Int) = (12 : Int) from rfl] at HN
  have HW := Lib.hid hW2
  rw [hW1] at HW
  clear h hl hc hb hz hW2 hW1
  go_enter Tryz.func70, Tryz.ntmps70
  go_wp2_with (go_at_call 11; (with_reducible refine HN.out.mono ?_); rintro e w3 ⟨r, k', hr, rfl, hd, hk', hb3⟩; rw [← HW.out] at hb3; have hc3 := (hb3.block w.heap.size (Array.getElem?_eq_some_iff.1 HC.out).1 (by simp; omega)).trans HC.out; obtain ⟨b, o, e0, _, q0, q1, q2⟩ := HL.out.at r hr; obtain ⟨rfl, rfl⟩ : w.heap.size + 1 = b ∧ 0 = o := (by simpa using e0); rw [Nat.zero_add] at q0 q1 q2; have g0 := (hb3.block _ (block_lt q0) (by simp; omega)); have d0 := (cell_same g0 _).trans q0; have d1 := (cell_same g0 _).trans q1; have d2 := (cell_same g0 _).trans q2; obtain ⟨c0, c1, c2, f0, f1, f2, hlt⟩ := at_facts hc3; generalize hE : madeL.getD r noAt = E at d0 d1 d2; have HE := Lib.hid hE; have HD := Lib.hid hd; have HK := Lib.hid hk'; have HB3 := Lib.hid hb3; have HC3 := Lib.hid hc3; have HR := Lib.hid hr; clear hE hd hk' hb3 hc3 q0 q1 q2 e0 g0)
  have hs := ((But.set w.heap.size 0 w3 (.string E.1)).next (But.set w.heap.size 1 _ (.int .i64 E.2.1))).next (But.set w.heap.size 2 _ (.string E.2.2))
  exact bodyPost_ret (atRes1 rfl _ _ w _ _ _ rfl (at_set HC3.out)) rfl ⟨r, k', HR.out, by rw [HE.out]; rfl, HD.out.grown hs (fun j e => by obtain rfl := Option.some.inj e; exact hp), HK.out, ((But.of HB.out).next HB3.out).fresh hs (Nat.le_refl _)⟩
end Go.Proofs.YtflpajbcomhkpaaGreatDoor
