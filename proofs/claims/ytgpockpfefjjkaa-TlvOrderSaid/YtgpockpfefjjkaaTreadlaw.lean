/-
  The walk of the law TlvRead: for every string and every slice of bytes it returns true, and leaves all that was there as it was.
-/
import Derived.Test.YtgpockpfefjjkaaTawake
namespace Go.Proofs.Ytgpockpfefjjkaa
open Go.RowKit

/-- At the address lie the bytes l. -/
def BLies (w : World) (a : Option Addr) (l : List UInt8) : Prop := l = [] ∨ ∃ b o, a = some ⟨b, o, none⟩ ∧ ∀ i (h : i < l.length), w.cell? ⟨b, o + i, none⟩ = some (bcell l[i])
theorem run_convert_lies {P : Program} {src dst e : TypeId} (hs : P.underlying src = some (.slice e)) (he : P.underlying e = some (.int .u8)) (hd : P.underlying dst = some .string) {w : World} {a : Option Addr} {cap : Nat} {l : List UInt8} (h : BLies w a l) {w' : World} (hb : Below w.heap.size w w') :
    (convert src dst (.slice a l.length cap)).run P w' = .ok (.string ⟨l.toArray⟩) w' := by
  cases a with
  | none =>
    rcases h with rfl | ⟨b, o, h, _⟩
    · rw [List.length_nil, run_convert_bytes_string w' src dst e none 0 cap hs he hd]
      unfold Conv.bytesToString
      simp
      rfl
    · cases h
  | some ad =>
    refine run_convert_bytes_back w' src dst e ad cap l hs he hd (fun j hj => ?_)
    rcases h with rfl | ⟨b, o, h, hc⟩
    · exact absurd hj (Nat.not_lt_zero _)
    · obtain rfl := Option.some.inj h
      have hadd : (⟨b, o, none⟩ : Addr).add j = ⟨b, o + j, none⟩ := by unfold Addr.add; split <;> simp_all
      rw [hadd, hb.cell (p := ⟨b, o + j, none⟩) (block_lt_of_cell (hc j hj))]
      exact hc j hj

theorem read_far (s : ByteArray) (a0 : Option Addr) (len cap : Nat) (w : World) (h : 600 < s.size ∨ 600 < len) :
    Calls Try.prog 3 #[.string s, .slice a0 len cap] w fun e w' => e = .returned (.bool true) ∧ Below w.heap.size w w' := by
  by_cases h1 : 600 < s.size
  · have hd : decide ((600 : Int) < (s.size : Int)) = true := by simp; omega
    clear h
    go_enter Try.func3, Try.ntmps3
    go_wp2_with (go_at_call 11; (with_reducible refine (awake_any _).mono ?_); rintro e w1 ⟨rfl, hb1⟩; have HB1 := Lib.hid hb1; clear hb1)
    go_ret
    exact ⟨rfl, HB1.out⟩
  · have hd : decide ((600 : Int) < (s.size : Int)) = false := by simp; omega
    have h2 : 600 < len := by omega
    have hd2 : decide ((600 : Int) < (len : Int)) = true := by simp; omega
    clear h
    go_enter Try.func3, Try.ntmps3
    go_wp2_with (go_at_call 11; (with_reducible refine (awake_any _).mono ?_); rintro e w1 ⟨rfl, hb1⟩; have HB1 := Lib.hid hb1; clear hb1)
    go_ret
    exact ⟨rfl, HB1.out⟩

set_option maxRecDepth 100000 in
set_option maxHeartbeats 1000000 in
theorem read_near (s : ByteArray) (a0 : Option Addr) (l : List UInt8) (cap : Nat) (w : World) (h1 : s.size ≤ 600) (h2 : l.length ≤ 600) (hl : BLies w a0 l) :
    Calls Try.prog 3 #[.string s, .slice a0 l.length cap] w fun e w' => e = .returned (.bool true) ∧ Below w.heap.size w w' := by
  have HCV := Lib.hid (fun W (hb : Below w.heap.size w W) => run_convert_lies (P := Try.prog) (src := 22) (dst := 9) Try.underlying22 Try.underlying5 Try.underlying9 (cap := cap) hl hb)
  obtain ⟨n, hn⟩ : ∃ n, n = l.length := ⟨_, rfl⟩
  rw [← hn] at HCV h2 ⊢
  have HS1 := Lib.hid (show s.size ≤ 1099511627776 by omega)
  have HS2 := Lib.hid (show ByteArray.size ⟨l.toArray⟩ ≤ 1099511627776 by show l.toArray.size ≤ _; simp; omega)
  have HS3 := Lib.hid (show ByteArray.size (⟨#[48, 128]⟩ ++ s) ≤ 1099511627776 by rw [ByteArray.size_append]; show 2 + s.size ≤ _; omega)
  have HZ := Lib.hid (Below.refl w.heap.size w)
  clear hl hn
  go_enter Try.func3, Try.ntmps3
  go_wp2_with (first | (go_at_call 11; (with_reducible refine (awake_any _).mono ?_); rintro e w1 ⟨rfl, hb1⟩; have HZ := Lib.hid (below_next HZ.out hb1); have hcv := HCV.out _ HZ.out; clear hb1) | (go_at_call 12; (with_reducible refine (same_law _ _ (by first | exact HS1.out | exact HS2.out | exact HS3.out)).mono ?_); rintro e w2 ⟨rfl, hb2⟩; have HZ := Lib.hid (below_next HZ.out hb2); have hcv2 := HCV.out _ HZ.out; clear hb2))
  go_ret
  exact ⟨rfl, HZ.out⟩
end Go.Proofs.Ytgpockpfefjjkaa
