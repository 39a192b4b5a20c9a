/-
  The contract of the law's function awake: the chapter's example answers as written.
  Names that a law holds in blocks of its own; the calls of Match and awake in a region that draws.
  The contracts of certpathmade's New and Next: a deck in a block of the caller's own; a number from 0 to n - 1.
  The contract of certpathmade's Damage: a string that is at most one byte longer; nothing below the deck has changed.
  The contracts of certpathmade's Damage and replaced, with the deck kept.
  The contract of certpathmade's replaced.
  The contract of certpathmade's Rewrap.
  The size of what a made name's encoding is; Damage of any string.
  What is accepted is what is written: an element that is read depends on its own bytes alone, and is what Wrap writes for its parts; what Wrap writes is read. Nothing is claimed of the program here.
  What is accepted is what is written, as lists of bytes. Nothing is claimed of the program here.
  What Wrap writes is read, whatever stands behind it; what One accepts is what Wrap writes. Nothing is claimed of the program here.
  The contract of Few of certpathmade: whether a list of strings is small enough for a law.
  Elements that Wrap writes, in ascending order, one after the other: List reads them back, and they ascend.
  Plain laws on the short types as the reference looks them up, one after the other. Nothing is claimed of the program here.
-/
import Derived.Test.YtbpdenfiifcfcaaGreatDoorLaz
import Derived.Test.YtbpdenfiifcfcaaGreatDoorLai
import Derived.Test.YtbpdenfiifcfcaaGreatDoorLax
import Derived.Test.YtbpdenfiifcfcaaGreatDoorLan
import Derived.Deep.DeepCutAuto
import Derived.Deep.RegionHeld3
import Derived.Lib.QuietBelow
import Derived.BigQuiet
import Derived.Test.YtbpdenfiifcfcaaGreatDoorLah
import Derived.Test.YtbpdenfiifcfcaaGreatDoorLao
import Derived.Test.YtbpdenfiifcfcaaGreatDoorLar
import Derived.Test.YtbpdenfiifcfcaaGreatDoorLak
import Derived.Test.YtbpdenfiifcfcaaGreatDoorLay
import Derived.Test.YtbpdenfiifcfcaaGreatDoorLal
import Derived.Test.YtbpdenfiifcfcaaGreatDoorLaq
namespace Go.Proofs.YtbpdenfiifcfcaaGreatDoor
open Go.RowKit
/-- A name of a call's own,in block q. -/
def Held (w:World) (q lo:Nat) (n:Nm):Prop:=∃ s,w.heap[q]? = some (.cells #[s] 27 (0,0)) ∧ OwnN w lo s n
theorem Held.but {w w':World} {p q lo:Nat} {n:Nm} (h:Held w q lo n) (hb:But p w w') (hq:p ≠ q) (hl:p < lo):Held w' q lo n:=by
 obtain ⟨s,h1,h2⟩:=h
 exact ⟨s,(hb.block q (Array.getElem?_eq_some_iff.1 h1).1 (by simp;omega)).trans h1,h2.but hb hl⟩
theorem deck_up {w:World} {p:Nat} {a:Option Addr} {cap:Nat} {zs:List Int} {k:Nat} (h:DeckAt w p a cap zs k):DeckAt w.drew p a cap zs k:=h.below (Below.refl _ w).drew
theorem spN_of_made {n:Nm} (h:MadeN n):SpN 20 n:=by
 refine ⟨h.1,fun r hr => ⟨(h.2 r hr).1.1,fun x hx => ?_⟩⟩
 have hm:=(h.2 r hr).1.2.1 x hx
 have hall:∀ y ∈ madeL,y.1.size ≤ 100 ∧ y.2.2.size ≤ 20:=by decide
 exact hall x hm
theorem small_of_sp {L:Nat} {n:Nm} (h:SpN L n) (hL:L ≤ 1000):SmallN n:=by
 refine ⟨Nat.le_trans h.1 (by omega),fun i hi => ?_⟩
 have hr:=h.2 _ (getD_memS n i hi [])
 refine ⟨Nat.le_trans hr.1 (by omega),fun j hj => ?_⟩
 have hx:=hr.2 _ (getD_memS _ j hj noAt)
 exact ⟨Nat.le_trans hx.1 (by omega),Nat.le_trans hx.2 (by omega)⟩
/-- A name that can be read: its slice lies in block q. -/
def HoldAt (V:World) (q:Nat) (a:Option Addr) (N c:Nat) (n:Nm):Prop:=V.cell? ⟨q,0,none⟩ = some (.slice a N c) ∧ N = n.length ∧ N ≤ c ∧ RLies V a n ∧ SmallN n
theorem Held.open {w:World} {q lo L:Nat} {n:Nm} (h:Held w q lo n) (hs:SpN L n) (hL:L ≤ 1000):∃ a N c,HoldAt w q a N c n:=by
 obtain ⟨s,h1,h2⟩:=h
 obtain ⟨a,c,rfl,hc,hl⟩:=h2.lies
 exact ⟨a,n.length,c,(one_facts h1).1,rfl,hc,hl,small_of_sp hs hL⟩
theorem HoldAt.below {w w':World} {q N c:Nat} {a:Option Addr} {n:Nm} (h:HoldAt w q a N c n) (hb:Below w.heap.size w w'):HoldAt w' q a N c n :=
 ⟨(hb.cell (p:=⟨q,0,none⟩) (block_lt h.1)).trans h.1,h.2.1,h.2.2.1,h.2.2.2.1.below hb,h.2.2.2.2⟩
theorem deck_alloc {w:World} {p:Nat} {a:Option Addr} {cap:Nat} {zs:List Int} {k:Nat} (h:DeckAt w p a cap zs k) (o:Obj):DeckAt (w.alloc o) p a cap zs k:=by
 obtain ⟨h1,h2,h3,h5,h4⟩:=h
 have hp:p < w.heap.size:=(Array.getElem?_eq_some_iff.1 h1).1
 exact ⟨heap_keep h1 o,h2.below ((Below.refl p w).alloc (by omega) o) h3,h3,h5,h4⟩
theorem next_intN (p:Nat) (a:Option Addr) (cap:Nat) (zs:List Int) (k:Nat) (N:Nat) (M:Int) (w:World) (h:DeckAt w p a cap zs k) (hk2:k < 30000) (hN:0 < N) (hN2:N ≤ 1099511627776) (hM:M = (N:Int)) :
  Calls Tryz.prog 11 #[.pointer (some ⟨p,0,none⟩),.int .i64 M] w fun e w' => ∃ r k':Nat,r < N ∧ e = .returned (.int .i64 (r:Int)) ∧ DeckAt w' p a cap zs k' ∧ k' ≤ k + 1 ∧ But p w w':=by
 rw [hM]
 exact next_any p a cap zs k N w h hk2 hN hN2
theorem but_any {p:Nat} {w w1 w2 w3:World} {o:Obj} (h1:But p w w1) (h2:But p w1 w2) (h3:But p (w2.alloc o) w3):But p w w3 :=
 ((h1.next h2).next (But.of (belowNew w2 o))).next h3
theorem but_drew {p:Nat} {w w':World} (h:But p w w'):But p w w'.drew:=h.next (But.of (Below.refl _ w').drew)
set_option maxRecDepth 100000 in
set_option maxHeartbeats 2000000 in
theorem damage_but (p:Nat) (a:Option Addr) (cap:Nat) (zs:List Int) (k:Nat) (s:ByteArray) (w:World) (h:DeckAt w p a cap zs k) (hk:k ≤ 29990) (h0:s.size ≠ 0) (hs:s.size ≤ 1099511627000) :
  Calls Tryz.prog 18 #[.pointer (some ⟨p,0,none⟩),.string s] w fun e w' => ∃ (u:ByteArray) (k':Nat),e = .returned (.string u) ∧ u.size ≤ s.size + 1 ∧ DeckAt w' p a cap zs k' ∧ k' ≤ k + 3 ∧ But p w w':=by
 have he:=nonempty_list h0
 have HD:=Lib.hid h
 have HK:=Lib.hid hk
 have HP:=Lib.hid (show 0 < s.size by omega)
 have HS:=Lib.hid hs
 clear h hk h0
 go_enter Tryz.func18,Tryz.ntmps18
 go_wp2_with (first | (go_at_call 11;(with_reducible refine (next_intN p a cap zs k s.size (s.size:Int) _ HD.out (by have:=HK.out;omega) HP.out (by have:=HS.out;omega) rfl).mono ?_);rintro e w1 ⟨r1,k1,hr1,rfl,hd1,hk1,hb1⟩;have HD1:=Lib.hid hd1;have HK1:=Lib.hid hk1;have HB1:=Lib.hid hb1;clear hd1 hk1 hb1) | (go_at_call 11;(with_reducible refine (next_intN p a cap zs k1 256 256 _ HD1.out (by have:=HK.out;have:=HK1.out;omega) (by omega) (by omega) rfl).mono ?_);rintro e w2 ⟨r2,k2,hr2,rfl,hd2,hk2,hb2⟩;have HD2:=Lib.hid hd2;have HK2:=Lib.hid hk2;have HB2:=Lib.hid hb2;clear hd2 hk2 hb2;obtain ⟨y,rfl⟩:∃ y:UInt8,r2 = y.toNat:=⟨UInt8.ofNat r2,by simp;omega⟩;have hymod:((y.toNat:Nat):Int) % 256 = ((y.toNat:Nat):Int):=(by omega);have hcv:=row_conv w2 w2.heap.size 1 rfl [y] rfl #[.int .u8 ((y.toNat:Nat):Int)] rfl;obtain ⟨C,hC⟩:∃ C:ByteArray,C = ⟨[y].toArray⟩:=⟨_,rfl⟩;rw [← hC] at hcv;have hC1:C.size = 1:=(by rw [hC];rfl);clear hC) | (go_at_call 11;(with_reducible refine (next_intN p a cap zs k2 5 5 _ (deck_alloc HD2.out _) (by have:=HK.out;have:=HK1.out;have:=HK2.out;omega) (by omega) (by omega) rfl).mono ?_);rintro e w3 ⟨r3,k3,hr3,rfl,hd3,hk3,hb3⟩;have HD3:=Lib.hid hd3;have HKK:=Lib.hid (show k3 ≤ k + 3 by have:=HK1.out;have:=HK2.out;omega);have HB3:=Lib.hid (but_any HB1.out HB2.out hb3);clear hb3 hd3 hk3))
 ·have q1:(s.extract 0 r1).size = r1:=by rw [ByteArray.size_extract];omega
  have q2:(s.extract (r1 + 1) s.size).size = s.size - (r1 + 1):=by rw [ByteArray.size_extract];omega
  have q3:(s.extract 0 r1 ++ C).size = r1 + 1:=by rw [ByteArray.size_append,q1,hC1]
  have hs:=HS.out
  go_region
  go_wp2_with fail
  go_ret
  exact ⟨_,_,rfl,by rw [ByteArray.size_append,q3,q2];omega,deck_up HD3.out,HKK.out,but_drew HB3.out⟩
 ·have q1:(s.extract 0 r1).size = r1:=by rw [ByteArray.size_extract];omega
  have q2:(s.extract r1 s.size).size = s.size - r1:=by rw [ByteArray.size_extract];omega
  have q3:(s.extract 0 r1 ++ C).size = r1 + 1:=by rw [ByteArray.size_append,q1,hC1]
  have hs:=HS.out
  go_region
  go_wp2_with fail
  go_ret
  exact ⟨_,_,rfl,by rw [ByteArray.size_append,q3,q2];omega,deck_up HD3.out,HKK.out,but_drew HB3.out⟩
 ·have q1:(s.extract 0 r1).size = r1:=by rw [ByteArray.size_extract];omega
  have q2:(s.extract (r1 + 1) s.size).size = s.size - (r1 + 1):=by rw [ByteArray.size_extract];omega
  have hs:=HS.out
  go_region
  go_wp2_with fail
  go_ret
  exact ⟨_,_,rfl,by rw [ByteArray.size_append,q1,q2];omega,deck_up HD3.out,HKK.out,but_drew HB3.out⟩
 ·have hs:=HS.out
  go_ret
  exact ⟨_,_,rfl,by rw [ByteArray.size_extract];omega,HD3.out,HKK.out,HB3.out⟩
 ·go_ret
  exact ⟨_,_,rfl,by omega,HD3.out,HKK.out,HB3.out⟩
theorem wr1_size (T:Int) (x:ByteArray):(wr1 T x).size ≤ 131080:=wrapStr_size _ _
set_option maxRecDepth 100000 in
set_option maxHeartbeats 2000000 in
theorem replaced_any (p:Nat) (a:Option Addr) (cap:Nat) (zs:List Int) (k:Nat) (s:ByteArray) (w:World) (h:DeckAt w p a cap zs k) (hk:k ≤ 29980) (hs:s.size ≤ 1000000) :
  Calls Tryz.prog 35 #[.pointer (some ⟨p,0,none⟩),.string s] w fun e w' => ∃ (u:ByteArray) (k':Nat),e = .returned (.string u) ∧ u.size ≤ s.size + 131080 ∧ DeckAt w' p a cap zs k' ∧ k' ≤ k + 4 ∧ But p w w':=by
 have HD:=Lib.hid h
 have HK:=Lib.hid hk
 have HS:=Lib.hid hs
 by_cases h2:s.size < 2
 ·have hd:decide ((s.size:Int) < 2) = true:=by simp;omega
  clear h hk hs
  go_enter Tryz.func35,Tryz.ntmps35
  go_wp2_with fail
  go_ret
  exact ⟨_,_,rfl,by omega,HD.out,by omega,But.refl _ _⟩
 have hd:decide ((s.size:Int) < 2) = false:=by simp;omega
 have he:=nonempty_list (show s.size ≠ 0 by omega)
 obtain ⟨c,hc⟩:∃ c,c = s.extract 2 s.size:=⟨_,rfl⟩
 have hsl:∀ w,(Instr.slice 9 (.string s) (some (.int .i64 2)) none none).run Tryz.prog w = .ok (.string c) w:=fun w => by
  have:=run_slice_string_from_if (P:=Tryz.prog) w 9 s .i64 2 Tryz.underlying9
  rw [this,if_pos ⟨by omega,by omega⟩,hc]
  rfl
 have hixx:=fun w => run_index_u8 (P:=Tryz.prog) Tryz.underlying9 s 0 (by omega) 0 rfl w
 have HCZ:=Lib.hid (show c.size ≤ 1099511627776 by rw [hc,ByteArray.size_extract];omega)
 generalize u8at s 0 = cc at hixx
 have HDM:=Lib.hid (fun k w h hk => damage_but p a cap zs k s w h hk (by omega) (by omega))
 have HW1:=Lib.hid (fun T g W h => rw1 T g c W h HCZ.out)
 have HW0:=Lib.hid (fun T g W h => rw1 T g ⟨#[]⟩ W h (Nat.zero_le _))
 clear h hk hs hc h2
 go_enter Tryz.func35,Tryz.ntmps35
 go_wp2_with (first
  |(go_at_call 11;(with_reducible refine (next_intN p a cap zs k 6 6 _ HD.out (by have:=HK.out;omega) (by omega) (by omega) rfl).mono ?_);rintro e w1 ⟨r1,k1,hr1,rfl,hd1,hk1,hb1⟩;have HD1:=Lib.hid hd1;have HK1:=Lib.hid hk1;have HB1:=Lib.hid hb1;clear hd1 hk1 hb1)
  |(go_at_call 11;(with_reducible refine (next_intN p a cap zs k1 31 31 _ HD1.out (by have:=HK.out;have:=HK1.out;omega) (by omega) (by omega) rfl).mono ?_);rintro e w2 ⟨r2,k2,hr2,rfl,hd2,hk2,hb2⟩;have HD2:=Lib.hid hd2;have HK2:=Lib.hid hk2;have HB2:=Lib.hid hb2;clear hd2 hk2 hb2)
  |(go_at_call 11;(with_reducible refine (next_intN p a cap zs k1 256 256 _ HD1.out (by have:=HK.out;have:=HK1.out;omega) (by omega) (by omega) rfl).mono ?_);rintro e w2 ⟨r2,k2,hr2,rfl,hd2,hk2,hb2⟩;have HD2:=Lib.hid hd2;have HK2:=Lib.hid hk2;have HB2:=Lib.hid hb2;clear hd2 hk2 hb2;obtain ⟨y,rfl⟩:∃ y:UInt8,r2 = y.toNat:=⟨UInt8.ofNat r2,by simp;omega⟩;have hymod:((y.toNat:Nat):Int) % 256 = ((y.toNat:Nat):Int):=(by omega);have hcv:=row_conv w2 w2.heap.size 1 rfl [y] rfl #[.int .u8 ((y.toNat:Nat):Int)] rfl;obtain ⟨C,hC⟩:∃ C:ByteArray,C = ⟨[y].toArray⟩:=⟨_,rfl⟩;rw [← hC] at hcv;have hC1:C.size = 1:=(by rw [hC];rfl);clear hC)
  |(go_at_call 37;(with_reducible refine (HW1.out _ _ _ (bx1 _ _ _)).mono ?_);rintro e w5 ⟨rfl,hb5⟩;have HB5:=Lib.hid hb5;clear hb5)
  |(go_at_call 37;(with_reducible refine (HW0.out _ _ _ (bx1 _ _ _)).mono ?_);rintro e w5 ⟨rfl,hb5⟩;have HB5:=Lib.hid hb5;clear hb5)
  |(go_at_call 18;(with_reducible refine (HDM.out k1 _ HD1.out (by have:=HK.out;have:=HK1.out;omega)).mono ?_);rintro e w5 ⟨u,k5,rfl,hu,hd5,hk5,hb5⟩;have HD5:=Lib.hid hd5;have HB5:=Lib.hid hb5;clear hb5 hd5))
 ·go_ret
  exact ⟨_,_,rfl,Nat.le_trans (wr1_size _ _) (by omega),(HD2.out.below (belowNew _ _)).below HB5.out,by have:=HK1.out;have:=HK2.out;omega,((HB1.out.next HB2.out).next (But.of (belowNew _ _))).next (But.of HB5.out)⟩
 ·go_ret
  exact ⟨_,_,rfl,Nat.le_trans (wr1_size _ _) (by omega),(HD1.out.below (belowNew _ _)).below HB5.out,by have:=HK1.out;omega,(HB1.out.next (But.of (belowNew _ _))).next (But.of HB5.out)⟩
 ·go_ret
  exact ⟨_,_,rfl,Nat.le_trans (wr1_size _ _) (by omega),(HD1.out.below (belowNew _ _)).below HB5.out,by have:=HK1.out;omega,(HB1.out.next (But.of (belowNew _ _))).next (But.of HB5.out)⟩
 ·go_ret
  refine ⟨_,_,rfl,?_,HD2.out.below (belowNew _ _),by have:=HK1.out;have:=HK2.out;omega,(HB1.out.next HB2.out).next (But.of (belowNew _ _))⟩
  rw [ByteArray.size_append,hC1]
  exact Nat.le_trans (show 3 ≤ 131080 by omega) (by omega)
 ·go_ret
  exact ⟨_,_,rfl,Nat.le_trans (show 2 ≤ 131080 by omega) (by omega),HD1.out,by have:=HK1.out;omega,HB1.out⟩
 ·go_ret
  exact ⟨_,_,rfl,by omega,HD5.out,by have:=HK1.out;omega,HB1.out.next HB5.out⟩
theorem rdContent_two {b:ByteArray} (h:rdErr b = 0):(rdContent b).size + 2 ≤ b.size:=by
 obtain ⟨h1,_,h2,_,_⟩:=rd_ok h
 unfold rdContent
 rw [ByteArray.size_extract]
 omega
theorem lst_raw:∀ (n:Nat) (b:ByteArray),b.size ≤ n → ∀ e ∈ (lst b).1,e.2.2.size ≤ b.size
 |0,b,h,e,he => by rw [lst_nil (by omega)] at he;cases he
 |n + 1,b,h,e,he => by
  by_cases h0:b.size = 0
  ·rw [lst_nil h0] at he;cases he
  ·by_cases hr:rdErr b = 0
   ·rw [lst_step h0 hr] at he
    have h1:=rdRest_size hr
    split at he
    ·rcases List.mem_cons.1 he with rfl | he
     ·show (rdRaw b).size ≤ b.size
      unfold rdRaw
      rw [ByteArray.size_extract];omega
     ·have:=lst_raw n (rdRest b) (by omega) e he
      omega
    ·cases he
   ·rw [lst_bad h0 hr] at he;cases he
def Rewraps (N:Nat):Prop:=∀ (p:Nat) (a:Option Addr) (cap:Nat) (zs:List Int) (k:Nat) (s:ByteArray) (w:World),s.size ≤ N → DeckAt w p a cap zs k → k + s.size ≤ 29970 →
  Calls Tryz.prog 19 #[.pointer (some ⟨p,0,none⟩),.string s] w fun e w' => ∃ (u:ByteArray) (k':Nat),e = .returned (.string u) ∧ u.size ≤ s.size + 131080 ∧ DeckAt w' p a cap zs k' ∧ k' ≤ k + s.size + 6 ∧ But p w w'
set_option maxRecDepth 100000 in
set_option maxHeartbeats 4000000 in
theorem rewrap_step (N:Nat) (IH:N ≠ 0 → Rewraps (N - 1)):Rewraps N:=by
 unfold Rewraps at IH
 intro p a cap zs k s w hN h hk
 have HD:=Lib.hid h
 have HS:=Lib.hid hk
 have HIH:=Lib.hid IH
 have hp:=h.lt
 have HRP:=Lib.hid (fun k s w h h1 h2 => replaced_any p a cap zs k s w h h1 h2)
 have HON:=Lib.hid (rone_any s w (by omega))
 unfold oneVal at HON
 clear h IH
 go_enter Tryz.func19,Tryz.ntmps19
 go_wp2_with fail
 by_cases h1:oneErr s = 0
 case neg =>
  rw [if_neg h1] at HON
  have hz1:=errno_ne h1
  unfold noEl at HON
  clear h1
  refine HON.out.mono ?_
  rintro e w1 ⟨rfl,hb1⟩
  have HB1:=Lib.hid (below_next hb1 (belowNew w1 (.cells #[.int .i64 0,.string ⟨#[]⟩,.string ⟨#[]⟩] 67)))
  clear hb1
  go_wp2_with (go_at_call 35;(with_reducible refine (HRP.out k s _ (HD.out.below HB1.out) (by have:=HS.out;omega) (by have:=HS.out;omega)).mono ?_);rintro e w5 ⟨u,k5,rfl,hu,hd5,hk5,hb5⟩;have HD5:=Lib.hid hd5;have HB5:=Lib.hid hb5;clear hb5 hd5)
  go_ret
  exact ⟨_,_,rfl,hu,HD5.out,by omega,(But.of HB1.out).next HB5.out⟩
 rw [if_pos h1] at HON
 unfold elV at HON
 have hrc:=rdContent_two (oneErr_rd h1)
 generalize rdTag s = t at HON
 generalize rdContent s = ct at HON hrc
 generalize rdRaw s = rw0 at HON
 have HLS:=Lib.hid (fun W => rlist_any ct W (by omega))
 have HRAW:=Lib.hid (fun z (hz:z ∈ (lst ct).1) => lst_raw _ ct (Nat.le_refl _) z hz)
 have hlen:=lst_length ct _ (Nat.le_refl _)
 generalize lst ct = LE at HLS HRAW hlen
 obtain ⟨l,er⟩:=LE
 simp only at HLS HRAW hlen
 clear h1
 refine HON.out.mono ?_
 rintro e w1 ⟨rfl,hb1⟩
 obtain ⟨g,hg⟩:∃ g,g = w1.heap.size:=⟨_,rfl⟩
 obtain ⟨W1,hW1⟩:∃ W1,W1 = w1.alloc (.cells #[.int .i64 ((t:Nat):Int),.string ct,.string rw0] 67):=⟨_,rfl⟩
 have hbb:Below w1.heap.size w1 W1:=by rw [hW1];exact belowNew w1 _
 have q0:W1.heap[g]? = some (.cells #[.int .i64 ((t:Nat):Int),.string ct,.string rw0] 67 (0,0)):=by rw [hW1,hg];exact heap_alloc_new w1 _
 obtain ⟨e0,e1,e2,_,_,_,el⟩:=at_facts q0
 have HQ:=Lib.hid q0
 have HB1:=Lib.hid (below_next hb1 hbb)
 have HD1:=Lib.hid (HD.out.below HB1.out)
 have hpg:p < g:=by have:=hb1.size;omega
 have HG:=Lib.hid hg
 have HWE1:=Lib.hid hW1.symm
 clear hb1 hbb hW1 hg q0
 go_upto_region 2 with fail
 rw [HWE1.out,← HG.out]
 go_wp2_with (go_at_call 35;(with_reducible refine (HRP.out k s _ HD1.out (by have:=HS.out;omega) (by have:=HS.out;omega)).mono ?_);rintro e w5 ⟨u,k5,rfl,hu,hd5,hk5,hb5⟩;have HD5:=Lib.hid hd5;have HB5:=Lib.hid hb5;clear hb5 hd5)
 ·go_ret
  exact ⟨_,_,rfl,hu,HD5.out,by omega,(But.of HB1.out).next HB5.out⟩
 refine (HLS.out W1).mono ?_
 rintro e w2 ⟨v2,rfl,ho2,hb2⟩
 obtain ⟨a2,c2,rfl,hlc,hel,_⟩:=ElAt.of ho2
 obtain ⟨m,hm⟩:∃ m,m = l.length:=⟨_,rfl⟩
 rw [← hm] at hlc hlen ⊢
 have HM:=Lib.hid hm
 have HEL:=Lib.hid hel
 have HB2:=Lib.hid (below_next HB1.out hb2)
 have HD2:=Lib.hid (HD1.out.below hb2)
 have hq2:=(hb2.block g el).trans HQ.out
 have HQ2:=Lib.hid hq2
 obtain ⟨f0,f1,f2,_,_,_,fl⟩:=at_facts hq2
 clear ho2 hel hm hb2 hq2 e0 e1 e2 el
 by_cases hz:er = 0
 case neg =>
  have hzz:=errno_ne hz
  clear hz
  go_wp2_with (go_at_call 35;(with_reducible refine (HRP.out k s _ HD2.out (by have:=HS.out;omega) (by have:=HS.out;omega)).mono ?_);rintro e w5 ⟨u,k5,rfl,hu,hd5,hk5,hb5⟩;have HD5:=Lib.hid hd5;have HB5:=Lib.hid hb5;clear hb5 hd5)
  go_ret
  exact ⟨_,_,rfl,hu,HD5.out,by omega,(But.of HB2.out).next HB5.out⟩
 subst hz
 by_cases hm0:m = 0
 ·subst hm0
  go_wp2_with (go_at_call 35;(with_reducible refine (HRP.out k s _ HD2.out (by have:=HS.out;omega) (by have:=HS.out;omega)).mono ?_);rintro e w5 ⟨u,k5,rfl,hu,hd5,hk5,hb5⟩;have HD5:=Lib.hid hd5;have HB5:=Lib.hid hb5;clear hb5 hd5)
  go_ret
  exact ⟨_,_,rfl,hu,HD5.out,by omega,(But.of HB2.out).next HB5.out⟩
 have hme:((m:Int) == 0) = false:=by simp;omega
 go_wp2_with (first
  |(go_at_call 11;(with_reducible refine (next_intN p a cap zs k m (m:Int) _ HD2.out (by have:=HS.out;omega) (by omega) (by omega) rfl).mono ?_);rintro e w3 ⟨r3,k3,hr3,rfl,hd3,hk3,hb3⟩;have HD3:=Lib.hid hd3;have HK3:=Lib.hid hk3;have HB3:=Lib.hid hb3;clear hd3 hk3 hb3)
  |(go_at_call 11;(with_reducible refine (next_intN p a cap zs k3 8 8 _ HD3.out (by have:=HK3.out;have:=HS.out;omega) (by omega) (by omega) rfl).mono ?_);rintro e w4 ⟨r4,k4,hr4,rfl,hd4,hk4,hb4⟩;have HD4:=Lib.hid hd4;have HK4:=Lib.hid hk4;have HB4:=Lib.hid hb4;clear hd4 hk4 hb4))
 have hB24:But p w2 w4:=HB3.out.next HB4.out
 have HQ4:=Lib.hid ((hB24.block g fl (by simp;omega)).trans HQ2.out)
 have HEL4:=Lib.hid (show ElAt w4 a2 l from HEL.out.but hB24 (fun x hx hl => by have:=(‹∀ (x:Addr),a2 = some x → l ≠ [] → W1.heap.size ≤ x.block ∧ x.block < w2.heap.size› x hx hl).1;have:=HQ.out;have:=(Array.getElem?_eq_some_iff.1 HQ.out).1;omega))
 have HB4':=Lib.hid (show But p w w4 from (But.of HB2.out).next hB24)
 have HKK:=Lib.hid (show k4 ≤ k + 2 by have:=HK3.out;have:=HK4.out;omega)
 have hp4:p < w4.heap.size:=HD4.out.lt
 clear f0 f1 f2 fl hB24
 go_loopw [9,54] (fun c i wr => ∃ (j kk:Nat) (C:ByteArray),j ≤ m ∧ c = .string C ∧ i = .int .i64 (j:Int) ∧ C.size ≤ j * 170000 ∧ DeckAt wr p a cap zs kk ∧ (j ≤ r3 → kk ≤ k + 2) ∧ kk ≤ k + s.size + 6 ∧ But p w4 wr) (fun _ i _ => m - (intOf i).toNat)
 case atStart => exact ⟨0,k4,⟨#[]⟩,Nat.zero_le _,rfl,rfl,Nat.zero_le _,HD4.out,fun _ => HKK.out,by have:=HKK.out;omega,But.refl _ _⟩
 case round =>
  obtain ⟨wo,hwo⟩:∃ wo,wo = wr:=⟨_,rfl⟩
  subst hwo
  obtain ⟨j,kk,C,hj,rfl,rfl,hC,hdk,hkr,hkk,hb⟩:=hrel
  have HDK:=Lib.hid hdk
  have HKR:=Lib.hid hkr
  have HCZ:=Lib.hid hC
  have HB:=Lib.hid hb
  have HKT:=Lib.hid hkk
  have hq:=(hb.block g (Array.getElem?_eq_some_iff.1 HQ4.out).1 (by simp;omega)).trans HQ4.out
  have HQ5:=Lib.hid hq
  obtain ⟨f0,f1,f2,_,_,_,fl⟩:=at_facts hq
  clear hC hdk hkr hkk hb hq
  by_cases hlt:j < m
  ·have hd:decide ((j:Int) < (m:Int)) = true:=by simp;omega
   obtain ⟨b,o,rfl,hcl⟩:=HEL4.out.resolve_left (fun e => by have:=HM.out;rw [e] at this;simp at this;omega)
   obtain ⟨x0,x1,x2⟩:=hcl j (by rw [← HM.out];exact hlt)
   have hbp:b ≠ p:=by
    have:=(‹∀ (x:Addr),some (⟨b,o,none⟩:Addr) = some x → l ≠ [] → W1.heap.size ≤ x.block ∧ x.block < w2.heap.size› _ rfl (fun e => by have:=HM.out;rw [e] at this;simp at this;omega)).1
    have:=(Array.getElem?_eq_some_iff.1 HQ.out).1
    simp at *
    omega
   have c0:=HB.out.cell x0 (by simpa using hbp)
   have c1:=HB.out.cell x1 (by simpa using hbp)
   have c2':=HB.out.cell x2 (by simpa using hbp)
   have hki:(j:Int) < (m:Int):=by omega
   have hmz:=HRAW.out (l.getD j noEle) (by rw [List.getD_eq_getElem?_getD,List.getElem?_eq_getElem (by rw [← HM.out];exact hlt)];exact List.getElem_mem _)
   rw [show ((0:Nat),(⟨#[]⟩:ByteArray),(⟨#[]⟩:ByteArray)) = noEle from rfl] at c0 c1 c2'
   generalize l.getD j noEle = y at c0 c1 c2' hmz
   obtain ⟨yt,yc,yr⟩:=y
   simp only at c0 c1 c2' hmz
   have HMZ:=Lib.hid (show yr.size + 2 ≤ s.size by omega)
   have HSN:=Lib.hid hN
   obtain ⟨q,hq⟩:∃ q,q = wo.heap.size:=⟨_,rfl⟩
   obtain ⟨W5,hW5⟩:∃ W5,W5 = wo.alloc (.cells #[.int .i64 ((yt:Nat):Int),.string yc,.string yr] 67):=⟨_,rfl⟩
   have hb5:Below wo.heap.size wo W5:=by rw [hW5];exact belowNew wo _
   obtain ⟨t0,t1,t2,_,_,_,tl⟩:=at_facts (show W5.heap[q]? = _ from by rw [hW5,hq];exact heap_alloc_new wo _)
   have HD5:=Lib.hid (HDK.out.below hb5)
   have HB5:=Lib.hid (HB.out.next (But.of hb5))
   have HWE5:=Lib.hid hW5.symm
   have HQQ:=Lib.hid hq
   clear hcl x0 x1 x2 hmz hq hW5 hb5 f0 f1 f2 fl hbp
   go_upto_region 14 with fail
   rw [HWE5.out,← HQQ.out]
   clear c0 c1 c2'
   have hCz:C.size ≤ 6000000000:=by have:=HCZ.out;have:=HS.out;omega
   have hyz:yr.size ≤ 30000:=by have:=HMZ.out;have:=HS.out;omega
   by_cases hjr:j = r3
   ·have hne:((j:Int) != (r3:Int)) = false:=by simp;omega
    have HKJ:=Lib.hid (HKR.out (by omega))
    go_wp2_with (first
     |(go_at_call 35;(with_reducible refine (HRP.out kk yr _ HD5.out (by have:=HKJ.out;have:=HS.out;omega) (by have:=HMZ.out;have:=HS.out;omega)).mono ?_);rintro e w7 ⟨u,k7,rfl,hu,hd7,hk7,hb7⟩;have hu9:u.size ≤ 165000:=(by omega);have HD7:=Lib.hid hd7;have HK7:=Lib.hid hk7;have HB7:=Lib.hid hb7;clear hu hb7 hd7 hk7)
     |(go_at_call 19;(with_reducible refine (HIH.out (by have:=HMZ.out;have:=HSN.out;omega) p a cap zs kk yr _ (by have:=HMZ.out;have:=HSN.out;omega) HD5.out (by have:=HKJ.out;have:=HMZ.out;have:=HS.out;omega)).mono ?_);rintro e w7 ⟨u,k7,rfl,hu,hd7,hk7,hb7⟩;have hu9:u.size ≤ 165000:=(by omega);have HD7:=Lib.hid hd7;have HK7:=Lib.hid hk7;have HB7:=Lib.hid hb7;clear hu hb7 hd7 hk7))
    ·go_roundw
     case rel => exact ⟨j + 1,kk,C ++ (yr ++ yr),by omega,rfl,by go_num,by rw [ByteArray.size_append,ByteArray.size_append];have:=HCZ.out;omega,HD5.out,fun h => absurd h (by omega),HKT.out,HB5.out⟩
     case measure => simp [intOf];omega
    ·go_roundw
     case rel => exact ⟨j + 1,kk,C,by omega,rfl,by go_num,Nat.le_trans HCZ.out (Nat.mul_le_mul_right _ (Nat.le_succ j)),HD5.out,fun h => absurd h (by omega),HKT.out,HB5.out⟩
     case measure => simp [intOf];omega
    ·go_roundw
     case rel => exact ⟨j + 1,k7,C ++ u,by omega,rfl,by go_num,by rw [ByteArray.size_append];have:=HCZ.out;omega,HD7.out,fun h => absurd h (by omega),by have:=HK7.out;have:=HKJ.out;omega,HB5.out.next HB7.out⟩
     case measure => simp [intOf];omega
    ·go_roundw
     case rel => exact ⟨j + 1,k7,C ++ u,by omega,rfl,by go_num,by rw [ByteArray.size_append];have:=HCZ.out;omega,HD7.out,fun h => absurd h (by omega),by have:=HK7.out;have:=HKJ.out;have:=HMZ.out;omega,HB5.out.next HB7.out⟩
     case measure => simp [intOf];omega
   ·have hne:((j:Int) != (r3:Int)) = true:=by simp;omega
    go_wp2_with fail
    go_roundw
    case rel => exact ⟨j + 1,kk,C ++ yr,by omega,rfl,by go_num,by rw [ByteArray.size_append];have:=HCZ.out;have:=HMZ.out;have:=HS.out;omega,HD5.out,fun h => HKR.out (by omega),HKT.out,HB5.out⟩
    case measure => simp [intOf];omega
  ·have hd:decide ((j:Int) < (m:Int)) = false:=by simp;omega
   have HW:=Lib.hid (fun T g W h => rw1 T g C W h (by have:=HCZ.out;have:=HS.out;omega))
   go_wp2_with (go_at_call 37;(with_reducible refine (HW.out _ _ _ (bx1 _ _ _)).mono ?_);rintro e w8 ⟨rfl,hb8⟩;have HB8:=Lib.hid hb8;clear hb8)
   go_ret
   exact ⟨_,_,rfl,Nat.le_trans (wr1_size _ _) (by omega),(HDK.out.below (belowNew _ _)).below HB8.out,HKT.out,((HB4'.out.next HB.out).next (But.of (belowNew _ _))).next (But.of HB8.out)⟩
theorem rewrap_all:∀ N,Rewraps N
 |0 => rewrap_step 0 (fun h => absurd rfl h)
 |N + 1 => rewrap_step (N + 1) (fun _ => rewrap_all N)
theorem rewrap_any (p:Nat) (a:Option Addr) (cap:Nat) (zs:List Int) (k:Nat) (s:ByteArray) (w:World) (h:DeckAt w p a cap zs k) (hk:k + s.size ≤ 29970) :
  Calls Tryz.prog 19 #[.pointer (some ⟨p,0,none⟩),.string s] w fun e w' => ∃ (u:ByteArray) (k':Nat),e = .returned (.string u) ∧ u.size ≤ s.size + 131080 ∧ DeckAt w' p a cap zs k' ∧ k' ≤ k + s.size + 6 ∧ But p w w' :=
 rewrap_all s.size p a cap zs k s w (Nat.le_refl _) h hk
theorem wrapStr_le (T:Int) (c:List UInt8):(wrapStr T c).size ≤ c.length + 6:=by
 unfold wrapStr
 split
 ·show (wrapL T.toNat c).toArray.size ≤ _
  unfold wrapL
  simp only [List.size_toArray,List.length_cons,List.length_append,lenO_length]
  have:lsz c.length ≤ 4:=by unfold lsz;split <;> (try split) <;> (try split) <;> omega
  omega
 ·exact Nat.zero_le _
theorem encA_le (x:At) (h:x.2.2.size ≤ 30):(encA x).size ≤ 103:=by
 have h1:=wrapStr_le 6 (oidS x.1).data.toList
 have h2:=wrapStr_le x.2.1 x.2.2.data.toList
 have h3:=wrapStr_le 48 ((wr1 6 (oidS x.1)).data.toList ++ (wr1 x.2.1 x.2.2).data.toList)
 have h4:=oidS_size x.1
 have e1:(oidS x.1).data.toList.length = (oidS x.1).size:=rfl
 have e2:x.2.2.data.toList.length = x.2.2.size:=rfl
 have e3:(wr1 6 (oidS x.1)).data.toList.length = (wrapStr 6 (oidS x.1).data.toList).size:=rfl
 have e4:(wr1 x.2.1 x.2.2).data.toList.length = (wrapStr x.2.1 x.2.2.data.toList).size:=rfl
 rw [List.length_append] at h3
 show (wrapStr 48 ((wr1 6 (oidS x.1)).data.toList ++ (wr1 x.2.1 x.2.2).data.toList)).size ≤ 103
 omega
theorem cat_lenM (M:Nat):∀ (ss:List ByteArray),(∀ s ∈ ss,s.size ≤ M) → (cat_t ss).length ≤ M * ss.length
 |[],_ => by simp [cat_t]
 |s :: r,h => by
  have h1:s.data.toList.length ≤ M:=h s List.mem_cons_self
  have h2:=cat_lenM M r (fun x hx => h x (List.mem_cons_of_mem _ hx))
  have e:cat_t (s :: r) = s.data.toList ++ cat_t r:=rfl
  rw [e,List.length_append,List.length_cons,Nat.mul_succ]
  omega
set_option maxRecDepth 100000 in
set_option maxHeartbeats 2000000 in
theorem damage_all (p:Nat) (a:Option Addr) (cap:Nat) (zs:List Int) (k:Nat) (s:ByteArray) (w:World) (h:DeckAt w p a cap zs k) (hk:k ≤ 29990) (hs:s.size ≤ 1099511627000) :
  Calls Tryz.prog 18 #[.pointer (some ⟨p,0,none⟩),.string s] w fun e w' => ∃ (u:ByteArray) (k':Nat),e = .returned (.string u) ∧ u.size ≤ s.size + 1 ∧ DeckAt w' p a cap zs k' ∧ k' ≤ k + 3 ∧ But p w w':=by
 by_cases h0:s.size = 0
 ·obtain rfl:=empty_of_size h0
  have HD:=Lib.hid h
  clear h hk hs h0
  go_enter Tryz.func18,Tryz.ntmps18
  go_wp2_with fail
  go_ret
  exact ⟨_,_,rfl,Nat.zero_le _,HD.out,by omega,But.refl _ _⟩
 ·exact damage_but p a cap zs k s w h hk h0 hs
theorem lists_flat:∀ (ss:List ByteArray),(lists ss).flatten.length = (cat_t ss).length
 |[] => rfl
 |s :: r => by
  have e:cat_t (s :: r) = s.data.toList ++ cat_t r:=rfl
  have e2:(lists (s :: r)).flatten = s.data.toList ++ (lists r).flatten:=rfl
  rw [e,e2,List.length_append,List.length_append,lists_flat r]
theorem encR_le {r:List At} (hl:r.length ≤ 2) (h:∀ x ∈ r,x.2.2.size ≤ 30):(encR r).size ≤ 212:=by
 have h1:=wrapStr_le 49 (ordL (lists (r.map encA))).flatten
 rw [ordL_flat_length,lists_flat] at h1
 have h2:=cat_lenM 103 (r.map encA) (fun s hs => by obtain ⟨a,ha,rfl⟩:=List.mem_map.1 hs;exact encA_le a (h a ha))
 rw [List.length_map] at h2
 show (wrapStr 49 (ordL (lists (r.map encA))).flatten).size ≤ 212
 omega
theorem encV_le {n:Nm} (h:SpN 20 n):(encV n).size ≤ 650:=by
 unfold encV
 split
 ·have h1:=wrapStr_le 48 (cat_t (n.map encR))
  have h2:=cat_lenM 212 (n.map encR) (fun s hs => by obtain ⟨a,ha,rfl⟩:=List.mem_map.1 hs;exact encR_le (h.2 a ha).1 (fun x hx => Nat.le_trans ((h.2 a ha).2 x hx).2 (by omega)))
  rw [List.length_map] at h2
  have:=h.1
  show (wrapStr 48 (cat_t (n.map encR))).size ≤ 650
  omega
 ·exact Nat.zero_le _
theorem rd_cases {b:ByteArray} (h:rdErr b = 0):b.size ≠ 0 ∧ u8at b 0 % 32 ≠ 31 ∧ (lnAt b 1).2.2 = 0 ∧ 1 + (lnAt b 1).2.1 + (lnAt b 1).1 ≤ b.size ∧ rd b = (0,1 + (lnAt b 1).2.1,(lnAt b 1).1):=by
 unfold rdErr rd at h
 unfold rd
 by_cases h0:b.size = 0
 ·rw [if_pos h0] at h;cases h
 ·rw [if_neg h0] at h ⊢
  by_cases h1:u8at b 0 % 32 = 31
  ·rw [if_pos h1] at h;cases h
  ·rw [if_neg h1] at h ⊢
   by_cases h2:(lnAt b 1).2.2 = 0
   ·rw [if_neg (fun x => x h2)] at h ⊢
    by_cases h3:b.size < 1 + (lnAt b 1).2.1 + (lnAt b 1).1
    ·rw [if_pos h3] at h;cases h
    ·rw [if_neg h3]
     exact ⟨h0,h1,h2,by omega,rfl⟩
   ·rw [if_pos h2] at h;exact absurd h h2
theorem rd_mk {b:ByteArray} (h0:b.size ≠ 0) (h1:u8at b 0 % 32 ≠ 31) (h2:(lnAt b 1).2.2 = 0) (h3:1 + (lnAt b 1).2.1 + (lnAt b 1).1 ≤ b.size):rd b = (0,1 + (lnAt b 1).2.1,(lnAt b 1).1):=by
 unfold rd
 rw [if_neg h0,if_neg h1,if_neg (fun x => x h2),if_neg (by omega)]
theorem oneErr_size {b:ByteArray} (h:oneErr b = 0):(rd b).2.1 + (rd b).2.2 = b.size:=by
 have h1:=oneErr_rd h
 obtain ⟨_,_,h2,_,_⟩:=rd_ok h1
 unfold oneErr at h
 rw [if_neg (fun x => x h1)] at h
 by_cases h3:(rdRest b).size = 0
 ·unfold rdRest at h3
  rw [ByteArray.size_extract] at h3
  omega
 ·rw [if_pos h3] at h;cases h
theorem u8at_list_t {b:ByteArray} {L:List UInt8} (h:b.data.toList = L) (i:Nat):u8at b i = (L.getD i 0).toNat:=by unfold u8at;rw [h]
theorem size_list {b:ByteArray} {L:List UInt8} (h:b.data.toList = L):b.size = L.length:=by rw [← h];rfl
theorem data_extract (b:ByteArray) (i j:Nat):(b.extract i j).data.toList = (b.data.toList.drop i).take (j - i):=by
 rw [ByteArray.data_extract,Array.toList_extract,List.extract_eq_take_drop]
theorem lst_ge {L:List UInt8} (k:Nat) (h:k + 1 ≤ L.length):∃ x r,L = x :: r ∧ k ≤ r.length:=by
 cases L with
 |nil => exact absurd h (Nat.not_succ_le_zero _)
 |cons x r => exact ⟨x,r,rfl,by simpa using h⟩
/-- The header that was read is the one that is written. -/
theorem head_back {b:ByteArray} (h:rdErr b = 0):b.data.toList = UInt8.ofNat (rdTag b) :: (lenO (rd b).2.2 ++ b.data.toList.drop (rd b).2.1):=by
 obtain ⟨h0,h1,h2,h3,h4⟩:=rd_cases h
 obtain ⟨L,hL⟩:∃ L,b.data.toList = L:=⟨_,rfl⟩
 have hu:=u8at_list_t hL
 have hsz:=size_list hL
 rw [h4,hL]
 unfold rdTag
 simp only
 revert h2 h3
 unfold lnAt
 by_cases c1:b.size ≤ 1
 ·rw [if_pos c1];intro x;cases x
 ·rw [if_neg c1]
  by_cases c2:u8at b 1 < 128
  ·rw [if_pos c2]
   intro _ h3
   simp only at h3 ⊢
   obtain ⟨x0,r0,rfl,g0⟩:=lst_ge (L:=L) 1 (by omega)
   obtain ⟨x1,r1,rfl,g1⟩:=lst_ge (L:=r0) 0 (by omega)
   have e0:u8at b 0 = x0.toNat:=hu 0
   have e1:u8at b 1 = x1.toNat:=hu 1
   rw [e1] at c2 ⊢
   rw [e0]
   have e2:lenO x1.toNat = [x1]:=by unfold lenO;rw [if_pos (lsz1 c2),UInt8.ofNat_toNat]
   rw [e2,UInt8.ofNat_toNat]
   rfl
  ·rw [if_neg c2]
   by_cases c3:u8at b 1 = 128 ∨ 131 < u8at b 1
   ·rw [if_pos c3];intro x;cases x
   ·rw [if_neg c3]
    by_cases c4:b.size < 1 + 1 + (u8at b 1 - 128)
    ·rw [if_pos c4];intro x;cases x
    ·rw [if_neg c4]
     by_cases c5:be b (1 + 1) (u8at b 1 - 128) < least (u8at b 1 - 128) ∨ 131072 < be b (1 + 1) (u8at b 1 - 128)
     ·rw [if_pos c5];intro x;cases x
     ·rw [if_neg c5]
      intro _ h3
      simp only at h3 ⊢
      have hn:=be_lt b (1 + 1) (u8at b 1 - 128)
      obtain ⟨k,hk⟩:∃ k,k = u8at b 1 - 128:=⟨_,rfl⟩
      rw [← hk] at c4 c5 hn ⊢
      obtain ⟨x0,r0,rfl,g0⟩:=lst_ge (L:=L) 1 (by omega)
      obtain ⟨x1,r1,rfl,g1⟩:=lst_ge (L:=r0) 0 (by omega)
      have e0:u8at b 0 = x0.toNat:=hu 0
      have e1:u8at b 1 = x1.toNat:=hu 1
      have hl:r1.length + 2 = b.size:=by rw [hsz];rfl
      rw [e0,UInt8.ofNat_toNat]
      rcases (by omega:k = 1 ∨ k = 2 ∨ k = 3) with rfl | rfl | rfl
      ·obtain ⟨x2,r2,rfl,g2⟩:=lst_ge (L:=r1) 0 (by omega)
       have e2:u8at b 2 = x2.toNat:=hu 2
       have ev:be b (1 + 1) 1 = x2.toNat:=by show 256 * 0 + u8at b 2 = _;omega
       rw [ev] at c5 hn ⊢
       rw [least_one] at c5
       have hz:lsz x2.toNat = 2:=lsz2 (by omega) (by omega)
       have e3:lenO x2.toNat = [x1,x2]:=by
        unfold lenO
        rw [if_neg (by omega),hz]
        show [UInt8.ofNat 129,UInt8.ofNat (x2.toNat / 256 ^ 0)] = _
        rw [show (129:Nat) = x1.toNat by omega,Nat.pow_zero,Nat.div_one,UInt8.ofNat_toNat,UInt8.ofNat_toNat]
       rw [e3]
       rfl
      ·obtain ⟨x2,r2,rfl,g2⟩:=lst_ge (L:=r1) 1 (by omega)
       obtain ⟨x3,r3,rfl,g3⟩:=lst_ge (L:=r2) 0 (by omega)
       have e2:u8at b 2 = x2.toNat:=hu 2
       have e3:u8at b 3 = x3.toNat:=hu 3
       have l2:=x2.toNat_lt
       have l3:=x3.toNat_lt
       obtain ⟨v,hv⟩:∃ v,v = be b (1 + 1) 2:=⟨_,rfl⟩
       have ev:v = 256 * x2.toNat + x3.toNat:=by rw [hv];show 256 * (256 * 0 + u8at b 2) + u8at b 3 = _;omega
       rw [← hv] at c5 hn ⊢
       rw [least_two] at c5
       have hz:lsz v = 3:=lsz3 (by omega) (by omega)
       have e4:lenO v = [x1,x2,x3]:=by
        unfold lenO
        rw [if_neg (by omega),hz]
        show [UInt8.ofNat 130,UInt8.ofNat (v / 256 ^ 1),UInt8.ofNat (v / 256 ^ 0)] = _
        have q1:UInt8.ofNat (v / 256 ^ 1) = x2:=by rw [← UInt8.toNat_inj];simp;omega
        have q2:UInt8.ofNat (v / 256 ^ 0) = x3:=by rw [← UInt8.toNat_inj];simp;omega
        rw [show (130:Nat) = x1.toNat by omega,UInt8.ofNat_toNat,q1,q2]
       rw [e4]
       rfl
      ·obtain ⟨x2,r2,rfl,g2⟩:=lst_ge (L:=r1) 2 (by omega)
       obtain ⟨x3,r3,rfl,g3⟩:=lst_ge (L:=r2) 1 (by omega)
       obtain ⟨x4,r4,rfl,g4⟩:=lst_ge (L:=r3) 0 (by omega)
       have e2:u8at b 2 = x2.toNat:=hu 2
       have e3:u8at b 3 = x3.toNat:=hu 3
       have e4:u8at b 4 = x4.toNat:=hu 4
       have l2:=x2.toNat_lt
       have l3:=x3.toNat_lt
       have l4:=x4.toNat_lt
       obtain ⟨v,hv⟩:∃ v,v = be b (1 + 1) 3:=⟨_,rfl⟩
       have ev:v = 256 * (256 * x2.toNat + x3.toNat) + x4.toNat:=by rw [hv];show 256 * (256 * (256 * 0 + u8at b 2) + u8at b 3) + u8at b 4 = _;omega
       rw [← hv] at c5 hn ⊢
       rw [least_three] at c5
       have hz:lsz v = 4:=lsz4 (by omega)
       have e5:lenO v = [x1,x2,x3,x4]:=by
        unfold lenO
        rw [if_neg (by omega),hz]
        show [UInt8.ofNat 131,UInt8.ofNat (v / 256 ^ 2),UInt8.ofNat (v / 256 ^ 1),UInt8.ofNat (v / 256 ^ 0)] = _
        have q1:UInt8.ofNat (v / 256 ^ 2) = x2:=by rw [← UInt8.toNat_inj];simp;omega
        have q2:UInt8.ofNat (v / 256 ^ 1) = x3:=by rw [← UInt8.toNat_inj];simp;omega
        have q3:UInt8.ofNat (v / 256 ^ 0) = x4:=by rw [← UInt8.toNat_inj];simp;omega
        rw [show (131:Nat) = x1.toNat by omega,UInt8.ofNat_toNat,q1,q2,q3]
       rw [e5]
       rfl
theorem rd_len_le {b:ByteArray} (h:rdErr b = 0):(rd b).2.2 ≤ 131072:=by
 obtain ⟨_,_,h2,_,h4⟩:=rd_cases h
 rw [h4]
 simp only
 revert h2
 unfold lnAt
 repeat' split
 all_goals first | exact fun x => absurd x (by decide) | (intro _;simp only;omega)
theorem ofNat_small {n:Nat} (h:n < 256):(UInt8.ofNat n).toNat = n:=by simp;omega
/-- What Wrap has written is read,whatever stands behind it. -/
theorem rd_wrap {b:ByteArray} {t:Nat} {c d:List UInt8} (ht:t < 256) (h1:t % 32 ≠ 31) (hc:c.length ≤ 131072) (hb:b.data.toList = wrapL t c ++ d):rd b = (0,1 + lsz c.length,c.length):=by
 have hu:=u8at_list_t hb
 have hsz:=size_list hb
 have hw:wrapL t c ++ d = UInt8.ofNat t :: (lenO c.length ++ (c ++ d)):=by unfold wrapL;simp
 rw [hw] at hu hsz
 have e0:u8at b 0 = t:=by rw [hu 0];exact ofNat_small ht
 have hl:b.size = 1 + lsz c.length + c.length + d.length:=by rw [hsz];simp [lenO_length];omega
 have hz:=lsz_le c.length
 obtain ⟨n,hn⟩:∃ n,n = c.length:=⟨_,rfl⟩
 rw [← hn] at hc hu hl hz ⊢
 have key:lnAt b 1 = (n,lsz n,0):=by
  unfold lnAt
  rw [if_neg (show ¬ b.size ≤ 1 by omega)]
  have hcs:=lsz_cases n
  by_cases c1:lsz n = 1
  ·have e1:u8at b 1 = n:=by
    rw [hu 1];unfold lenO;rw [if_pos c1];exact ofNat_small (by omega)
   rw [e1,if_pos (by omega),c1]
  ·have e1:u8at b 1 = 127 + lsz n:=by
    rw [hu 1];unfold lenO;rw [if_neg c1];exact ofNat_small (by omega)
   obtain ⟨k,hk⟩:∃ k,lsz n = 1 + k:=⟨lsz n - 1,by omega⟩
   have e2:127 + lsz n - 128 = k:=by omega
   have eo:lenO n = UInt8.ofNat (127 + lsz n) :: octs n k:=by unfold lenO;rw [if_neg c1,show lsz n - 1 = k by omega]
   have hle:=least_ok (v:=n) (k:=k) (by omega) (by omega) hk
   have ev:be b (1 + 1) k = n:=by
    rw [eo] at hu
    rcases (by omega:k = 1 ∨ k = 2 ∨ k = 3) with rfl | rfl | rfl
    ·have a2:u8at b 2 = n % 256:=by rw [hu 2];show (UInt8.ofNat (n / 256 ^ 0)).toNat = _;simp
     show 256 * 0 + u8at b 2 = n
     omega
    ·have a2:u8at b 2 = n / 256 % 256:=by rw [hu 2];show (UInt8.ofNat (n / 256 ^ 1)).toNat = _;simp
     have a3:u8at b 3 = n % 256:=by rw [hu 3];show (UInt8.ofNat (n / 256 ^ 0)).toNat = _;simp
     show 256 * (256 * 0 + u8at b 2) + u8at b 3 = n
     omega
    ·have a2:u8at b 2 = n / 65536 % 256:=by rw [hu 2];show (UInt8.ofNat (n / 256 ^ 2)).toNat = _;simp
     have a3:u8at b 3 = n / 256 % 256:=by rw [hu 3];show (UInt8.ofNat (n / 256 ^ 1)).toNat = _;simp
     have a4:u8at b 4 = n % 256:=by rw [hu 4];show (UInt8.ofNat (n / 256 ^ 0)).toNat = _;simp
     show 256 * (256 * (256 * 0 + u8at b 2) + u8at b 3) + u8at b 4 = n
     omega
   rw [e1,if_neg (by omega),if_neg (by omega),e2,if_neg (by omega),ev,if_neg (by omega),hk]
 rw [rd_mk (b:=b) (by omega) (by rw [e0];exact h1) (by rw [key]) (by rw [key];simp only;omega),key]
theorem take_wrap (t:Nat) (c d:List UInt8):(wrapL t c ++ d).take (1 + lsz c.length + c.length) = wrapL t c:=by
 have:(wrapL t c).length = 1 + lsz c.length + c.length:=by unfold wrapL;simp [lenO_length];omega
 rw [List.take_append_of_le_length (by omega),List.take_of_length_le (by omega)]
theorem drop_wrap (t:Nat) (c d:List UInt8):(wrapL t c ++ d).drop (1 + lsz c.length + c.length) = d:=by
 have:(wrapL t c).length = 1 + lsz c.length + c.length:=by unfold wrapL;simp [lenO_length];omega
 rw [← this,List.drop_left]
theorem mid_wrap (t:Nat) (c d:List UInt8):((wrapL t c ++ d).drop (1 + lsz c.length)).take c.length = c:=by
 have h:wrapL t c ++ d = (UInt8.ofNat t :: lenO c.length) ++ (c ++ d):=by unfold wrapL;simp
 have h2:(UInt8.ofNat t :: lenO c.length).length = 1 + lsz c.length:=by simp [lenO_length];omega
 rw [h,← h2,List.drop_left,List.take_left]
theorem ext_list_t {a b:ByteArray} (h:a.data.toList = b.data.toList):a = b:=ByteArray.ext (Array.toList_inj.1 h)
/-- .. so that the element has these parts. -/
theorem read_wrap {b:ByteArray} {t:Nat} {c d:List UInt8} (ht:t < 256) (h1:t % 32 ≠ 31) (hc:c.length ≤ 131072) (hb:b.data.toList = wrapL t c ++ d) :
  rdVal b = .tuple #[.agg #[.int .i64 ((t:Nat):Int),.string ⟨c.toArray⟩,.string ⟨(wrapL t c).toArray⟩],.string ⟨d.toArray⟩,.int .i64 0]:=by
 have h:=rd_wrap ht h1 hc hb
 have he:rdErr b = 0:=by unfold rdErr;rw [h]
 have hsz:b.size = 1 + lsz c.length + c.length + d.length:=by rw [size_list hb];unfold wrapL;simp [lenO_length];omega
 have e0:rdTag b = t:=by
  unfold rdTag
  rw [u8at_list_t hb 0]
  exact ofNat_small ht
 have e1:rdContent b = ⟨c.toArray⟩:=by
  apply ext_list_t
  unfold rdContent
  rw [data_extract,h,hb]
  simp only
  rw [show 1 + lsz c.length + c.length - (1 + lsz c.length) = c.length by omega,mid_wrap]
 have e2:rdRaw b = ⟨(wrapL t c).toArray⟩:=by
  apply ext_list_t
  unfold rdRaw
  rw [data_extract,h,hb]
  simp only [List.drop_zero,Nat.sub_zero]
  exact take_wrap t c d
 have e3:rdRest b = ⟨d.toArray⟩:=by
  apply ext_list_t
  unfold rdRest
  rw [data_extract,h,hb]
  simp only
  rw [drop_wrap]
  exact List.take_of_length_le (by omega)
 rw [rdVal_good he,e0,e1,e2,e3]
/-- What One accepts is what Wrap writes for its parts. -/
theorem wrap_one {b:ByteArray} (h:oneErr b = 0):wrapVal ((rdTag b:Nat):Int) (cat_t [rdContent b]) = .tuple #[.string b,.int .i64 0] ∧ rdRaw b = b:=by
 have he:=oneErr_rd h
 have hs:=oneErr_size h
 have hlen:=rd_len_le he
 obtain ⟨_,h1,_,_,_⟩:=rd_cases he
 have hd:(rdContent b).data.toList = b.data.toList.drop (rd b).2.1:=by
  unfold rdContent
  rw [data_extract]
  refine List.take_of_length_le ?_
  rw [List.length_drop]
  show b.size - _ ≤ _
  omega
 have hc:cat_t [rdContent b] = b.data.toList.drop (rd b).2.1:=by simp [cat_t,hd]
 have hn:(b.data.toList.drop (rd b).2.1).length = (rd b).2.2:=by
  rw [List.length_drop]
  show b.size - _ = _
  omega
 have ht:=rdTag_lt b
 constructor
 ·have e:wrapErr ((rdTag b:Nat):Int) (cat_t [rdContent b]).length = 0:=by
   rw [hc,hn]
   unfold wrapErr
   rw [if_neg (by unfold rdTag at ht ⊢;omega),if_neg (by omega)]
  unfold wrapVal wrapStr
  rw [e,if_pos rfl,hc]
  have e2:wrapL ((rdTag b:Nat):Int).toNat (b.data.toList.drop (rd b).2.1) = b.data.toList:=by
   unfold wrapL
   rw [hn]
   exact (head_back he).symm
  rw [e2]
  rfl
 ·apply ext_list_t
  unfold rdRaw
  rw [data_extract,hs,List.drop_zero,Nat.sub_zero]
  exact List.take_of_length_le (Nat.le_refl _)
/-- The element of OCTETS with the content s: its bytes,and what the law writes. -/
def encS (s:ByteArray):ByteArray:=⟨(wrapL 4 s.data.toList).toArray⟩
def elS (s:ByteArray):El:=(4,s,encS s)
/-- Two values share no block. -/
def Apart (u v:Value):Prop:=∀ g,u.ownBlock = some g → v.ownBlock = some g → False
theorem Apart.symm {u v:Value} (h:Apart u v):Apart v u:=fun g a b => h g b a
theorem own_keep {w w':World} {B:Nat} {e:TypeId} {k n:Nat} {u v:Value} {xs:List Value} (hu:w.ownsRow B e k u n xs) (hg:w.grownBy w' v.ownBlock) (hd:Apart u v):w'.ownsRow B e k u n xs:=by
 refine World.ownsRow.kept hu hg ?_
 cases hb:u.ownBlock with
 |none => exact .inl rfl
 |some g => exact .inr fun e => hd g hb e.symm
theorem apart_step {w:World} {B:Nat} {e:TypeId} {k n:Nat} {u v v':Value} {xs:List Value} (hu:w.ownsRow B e k u n xs) (hd:Apart u v) (hat:v'.ownBlock = v.ownBlock ∨ v'.ownBlock = some w.heap.size):Apart u v':=by
 intro g h1 h2
 rcases hat with hat | hat
 ·exact hd g h1 (by rw [← hat];exact h2)
 ·have h3:=(World.ownsRow.lt hu g h1).2
  rw [hat] at h2
  have:=Option.some.inj h2
  omega
/-- The law's three slices. -/
def Tri (w wr:World) (v1 v2 v3:Value) (L1 L2:List ByteArray) (L3:List El):Prop :=
 OwnS_t wr w.heap.size v1 L1 ∧ OwnS_t wr w.heap.size v2 L2 ∧ OwnE wr w.heap.size v3 L3 ∧ Apart v1 v2 ∧ Apart v1 v3 ∧ Apart v2 v3 ∧ Below w.heap.size w wr
theorem Tri.nil (w:World):Tri w w (.slice none 0 0) (.slice none 0 0) (.slice none 0 0) [] [] [] :=
 ⟨World.ownsRow_nil _ _ _ _,World.ownsRow_nil _ _ _ _,World.ownsRow_nil _ _ _ _,fun _ h => by simp [Value.ownBlock] at h,fun _ h => by simp [Value.ownBlock] at h,fun _ h => by simp [Value.ownBlock] at h,Below.refl _ _⟩
theorem Tri.below {w wr w':World} {v1 v2 v3:Value} {L1 L2:List ByteArray} {L3:List El} (h:Tri w wr v1 v2 v3 L1 L2 L3) (hb:Below wr.heap.size wr w'):Tri w w' v1 v2 v3 L1 L2 L3:=by
 obtain ⟨a,b,c,d,e,f,g⟩:=h
 exact ⟨own_below a hb,own_below b hb,own_below c hb,d,e,f,below_next_t g hb⟩
theorem Tri.alloc {w wr:World} {v1 v2 v3:Value} {L1 L2:List ByteArray} {L3:List El} (h:Tri w wr v1 v2 v3 L1 L2 L3) (o:Obj):Tri w (wr.alloc o) v1 v2 v3 L1 L2 L3 :=
 h.below (belowNew wr o)
theorem Tri.first {w wr w2:World} {v1 v2 v3 v':Value} {L1 L2:List ByteArray} {L3:List El} {s:ByteArray} (h:Tri w wr v1 v2 v3 L1 L2 L3)
  (ho:w2.ownsRow w.heap.size 9 1 v' (L1.length + 1) (L1.map Value.string ++ [Value.string s])) (hg:wr.grownBy w2 v1.ownBlock) (hat:v'.ownBlock = v1.ownBlock ∨ v'.ownBlock = some wr.heap.size) :
  Tri w w2 v' v2 v3 (L1 ++ [s]) L2 L3:=by
 obtain ⟨a,b,c,d,e,f,g⟩:=h
 refine ⟨?_,own_keep b hg d.symm,own_keep c hg e.symm,(apart_step b d.symm hat).symm,(apart_step c e.symm hat).symm,f,g.grown hg g.size (fun k e => (World.ownsRow.lt a k e).1)⟩
 unfold OwnS_t
 simpa using ho
theorem Tri.second {w wr w2:World} {v1 v2 v3 v':Value} {L1 L2:List ByteArray} {L3:List El} {s:ByteArray} (h:Tri w wr v1 v2 v3 L1 L2 L3)
  (ho:w2.ownsRow w.heap.size 9 1 v' (L2.length + 1) (L2.map Value.string ++ [Value.string s])) (hg:wr.grownBy w2 v2.ownBlock) (hat:v'.ownBlock = v2.ownBlock ∨ v'.ownBlock = some wr.heap.size) :
  Tri w w2 v1 v' v3 L1 (L2 ++ [s]) L3:=by
 obtain ⟨a,b,c,d,e,f,g⟩:=h
 refine ⟨own_keep a hg d,?_,own_keep c hg f.symm,apart_step a d hat,e,(apart_step c f.symm hat).symm,g.grown hg g.size (fun k e => (World.ownsRow.lt b k e).1)⟩
 unfold OwnS_t
 simpa using ho
theorem Tri.third {w wr w2:World} {v1 v2 v3 v':Value} {L1 L2:List ByteArray} {L3:List El} {x:El} (h:Tri w wr v1 v2 v3 L1 L2 L3)
  (ho:w2.ownsRow w.heap.size 67 3 v' (L3.length + 1) (elsCells L3 ++ elCells x)) (hg:wr.grownBy w2 v3.ownBlock) (hat:v'.ownBlock = v3.ownBlock ∨ v'.ownBlock = some wr.heap.size) :
  Tri w w2 v1 v2 v' L1 L2 (L3 ++ [x]):=by
 obtain ⟨a,b,c,d,e,f,g⟩:=h
 refine ⟨own_keep a hg e,own_keep b hg f,?_,d,apart_step a e hat,apart_step b f hat,g.grown hg g.size (fun k e => (World.ownsRow.lt c k e).1)⟩
 unfold OwnE
 rw [List.length_append,elsCells_snoc]
 exact ho
theorem Tri.next {w wr:World} {v1 v2 v3:Value} {D ss:List ByteArray} {s x:ByteArray} {k:Nat} (h:Tri w wr v1 v2 v3 (D ++ [s]) (D.map encS ++ [x]) (D.map elS ++ [(4,s,x)])) (hx:x = encS s) (hD:D = ss.take k) (hk:k < ss.length)
  (hs:s = ss.getD k ByteArray.empty):Tri w wr v1 v2 v3 (ss.take (k + 1)) ((ss.take (k + 1)).map encS) ((ss.take (k + 1)).map elS):=by
 have e:ss.take (k + 1) = D ++ [s]:=by
  rw [List.take_succ_eq_append_getElem hk,hs,hD]
  simp [hk]
 rw [e,List.map_append,List.map_append]
 subst hx
 exact h
theorem OwnS_t.reads {w:World} {B:Nat} {v:Value} {D:List ByteArray} (h:OwnS_t w B v D):Reads w v D:=h.lies
theorem OwnE.old {B:Nat} {w w':World} {v:Value} {l:List El} (h:OwnE w B v l) (hb:Below w.heap.size w w'):OwnE w' B v l:=own_below h hb
end Go.Proofs.YtbpdenfiifcfcaaGreatDoor
