/-
  The contracts of checkRelative and Check: the first error of a relative name, of a name.
  The contracts of the reference's checkAttributes and CheckName: the same first error.
  The contracts of the reference's Fold and MatchText; nothing that was there before the call has changed.
  The contracts of certpathmade's New and Next, with the one block that a deck writes: a number from 0 to n - 1; all other memory as it was.
  The contract of foldedSet: a map whose keys are the pairs of type and folded value of a relative name's attributes.
-/
import Derived.Test.YtbpdenfiifcfcaaGreatDoorLag
import Derived.Test.YtbpdenfiifcfcaaGreatDoorLac
import Derived.Maps.Range
import Derived.Maps.AppendAt
import Derived.Maps.OwnSet
import Derived.Maps.RangeWalk
import Derived.Maps.Ext
import Derived.Lib.SlMapEqual
import Derived.DeepKeys4
import Derived.ProofKit
import Derived.Laws.IdiomRangeMap
namespace Go.Proofs.YtbpdenfiifcfcaaGreatDoor
open Go.RowKit
theorem errno_ne {e:Nat} (h:e ≠ 0):((e:Int) != 0) = true:=by simp;omega
set_option maxRecDepth 100000 in
set_option maxHeartbeats 4000000 in
theorem chkL_any (a0:Option Addr) (c n:Nat) (l:List At) (w:World) (h:ALies w a0 l) (hn:n = l.length) (hc:n ≤ c) (hs:SmallR l) (hT:Tab w) :
  Calls Tryz.prog 109 #[.slice a0 n c] w fun e w' => e = .returned (.int .i64 ((chkR l:Nat):Int)) ∧ Below w.heap.size w w':=by
 by_cases h0:n = 0
 ·subst h0
  have e:chkR l = 14:=by unfold chkR;rw [if_pos hn.symm]
  rw [e]
  clear e hn h hs hT
  go_enter Tryz.func109,Tryz.ntmps109
  go_wp2_with fail
  go_ret
  exact ⟨rfl,Below.refl _ _⟩
 have d0:((n:Int) == 0) = false:=by simp;omega
 by_cases h4:4 < n
 ·have e:chkR l = 2:=by unfold chkR;rw [if_neg (by omega),if_pos (by omega)]
  have d4:decide ((4:Int) < (n:Int)) = true:=by simp;omega
  rw [e]
  clear e hn h hs hT h0 h4
  go_enter Tryz.func109,Tryz.ntmps109
  go_wp2_with fail
  go_ret
  exact ⟨rfl,Below.refl _ _⟩
 have d4:decide ((4:Int) < (n:Int)) = false:=by simp;omega
 have e:chkR l = chkL [] l:=by unfold chkR;rw [if_neg (by omega),if_neg (by omega)]
 rw [e]
 have HN4:=Lib.hid (show n ≤ 4 by omega)
 have hL:n ≤ 1000000:=by omega
 obtain ⟨E,hE⟩:∃ E,E = chkL [] l:=⟨_,rfl⟩
 rw [← hE]
 have HE:=Lib.hid hE
 have H1:=Lib.hid h
 have HN:=Lib.hid hn
 have HS:=Lib.hid hs
 have HT:=Lib.hid hT
 clear h hn hs hT e hE h0 h4
 go_enter Tryz.func109,Tryz.ntmps109
 go_wp2_with fail
 go_loopw [14] (fun i wr => ∃ k:Nat,k ≤ n ∧ i = .int .i64 k ∧ E = chkL (l.take k) (l.drop k) ∧ Below w.heap.size w wr) (fun i _ => n - (intOf i).toNat)
 case atStart => exact ⟨0,Nat.zero_le _,rfl,by rw [List.take_zero,List.drop_zero];exact HE.out,Below.refl _ _⟩
 case round =>
  obtain ⟨k,hk,rfl,hA,hb⟩:=hrel
  have HB:=Lib.hid hb
  have HA:=Lib.hid hA
  clear hb hA
  by_cases hlt:k < n
  ·have hd:decide ((k:Int) < (n:Int)) = true:=by simp;omega
   obtain ⟨b,o,rfl,hb,c0,c1,c2⟩:=H1.out.at k (by rw [← HN.out];exact hlt)
   have a0:wr.cell? ⟨b,o + k * 3,none⟩ = _:=(HB.out.cell (p:=⟨b,o + k * 3,none⟩) hb).trans c0
   have a1:wr.cell? ⟨b,o + k * 3 + 1,none⟩ = _:=(HB.out.cell (p:=⟨b,o + k * 3 + 1,none⟩) hb).trans c1
   have a2:wr.cell? ⟨b,o + k * 3 + 2,none⟩ = _:=(HB.out.cell (p:=⟨b,o + k * 3 + 2,none⟩) hb).trans c2
   have HST:=Lib.hid (chkL_step l k (by rw [← HN.out];exact hlt))
   have hsm:=HS.out.2 k (by rw [← HN.out];exact hlt)
   generalize l.getD k noAt = y at a0 a1 a2 HST hsm
   obtain ⟨t,kd,v⟩:=y
   have HM1:=Lib.hid hsm.1
   have HM2:=Lib.hid hsm.2
   have hlc:k ≤ c:=by omega
   have hk0:(0:Int) ≤ (k:Int):=by omega
   have hkc:(k:Int) ≤ (c:Int):=by omega
   obtain ⟨Z,hZ⟩:∃ Z,Z = chkA (l.take k) (t,kd,v):=⟨_,rfl⟩
   rw [← hZ] at HST
   have HCK:=Lib.hid (fun W (hA:ALies W (some ⟨b,o,none⟩) l) (hT:Tab W) => chkA_any t v kd (some ⟨b,o,none⟩) c k (l.take k) W HM1.out HM2.out (hA.take k) (by rw [List.length_take,← HN.out];omega) (by have:=HN4.out;omega) hT)
   rw [← hZ] at HCK
   have HBA:=Lib.hid (show Below w.heap.size w (wr.alloc (.cells #[.string t,.int .i64 kd,.string v] 86)) from below_next HB.out (belowNew wr _))
   clear c0 c1 c2 hb hsm hZ
   by_cases hz:Z = 0
   ·subst hz
    have HF:=Lib.hid (show E = chkL (l.take (k + 1)) (l.drop (k + 1)) by rw [HA.out,HST.out,if_pos rfl])
    go_wp2_with fail
    go_region_with (go_at_call 133;(with_reducible refine (HCK.out _ (H1.out.below HBA.out.drew) (HT.out.below HBA.out.drew)).mono ?_);rintro e w1 ⟨rfl,hb1⟩;have HB1:=Lib.hid (below_next HBA.out.drew hb1);clear hb1)
    all_goals
     go_wp2_with fail
     go_roundw
     case rel => exact ⟨k + 1,by omega,by go_num,HF.out,HB1.out⟩
     case measure => simp [intOf];omega
   ·have HF:=Lib.hid (show E = Z by rw [HA.out,HST.out,if_neg hz])
    have hz1:=errno_ne hz
    go_wp2_with fail
    go_region_with (go_at_call 133;(with_reducible refine (HCK.out _ (H1.out.below HBA.out.drew) (HT.out.below HBA.out.drew)).mono ?_);rintro e w1 ⟨rfl,hb1⟩;have HB1:=Lib.hid (below_next HBA.out.drew hb1);clear hb1)
    all_goals
     go_wp2_with fail
     go_ret
     exact ⟨by rw [HF.out];rfl,HB1.out⟩
  ·have hd:decide ((k:Int) < (n:Int)) = false:=by simp;omega
   have HF:=Lib.hid (show E = 0 by rw [HA.out,chkL_end _ _ _ (by rw [← HN.out];omega)])
   go_wp2_with fail
   go_ret
   exact ⟨by rw [HF.out];rfl,HB.out⟩
set_option maxRecDepth 100000 in
set_option maxHeartbeats 4000000 in
theorem chk_core (a0:Option Addr) (c m:Nat) (n:Nm) (w:World) (h:RLies w a0 n) (hn:m = n.length) (hs:SmallN n) (hT:Tab w) :
  Calls Tryz.prog 85 #[.agg #[.slice a0 m c]] w fun e w' => e = .returned (.int .i64 ((chkN n:Nat):Int)) ∧ Below w.heap.size w w':=by
 by_cases h4:8 < m
 ·have e:chkN n = 2:=by unfold chkN;rw [if_pos (by omega)]
  have d4:decide ((8:Int) < (m:Int)) = true:=by simp;omega
  rw [e]
  clear e hn h hs hT h4
  go_enter Tryz.func85,Tryz.ntmps85
  go_wp2_with fail
  go_ret
  exact ⟨rfl,belowNew w _⟩
 have d4:decide ((8:Int) < (m:Int)) = false:=by simp;omega
 have e:chkN n = chkRs n:=by unfold chkN;rw [if_neg (by omega)]
 rw [e]
 have hL:m ≤ 1000000:=by omega
 obtain ⟨E,hE⟩:∃ E,E = chkRs n:=⟨_,rfl⟩
 rw [← hE]
 have HE:=Lib.hid hE
 have H1:=Lib.hid h
 have HN:=Lib.hid hn
 have HS:=Lib.hid hs
 have HT:=Lib.hid hT
 clear h hn hs hT e hE h4
 go_enter Tryz.func85,Tryz.ntmps85
 go_wp2_with fail
 go_loopw [13] (fun i wr => ∃ k:Nat,k ≤ m ∧ i = .int .i64 k ∧ E = chkRs (n.drop k) ∧ Below w.heap.size w wr) (fun i _ => m - (intOf i).toNat)
 case atStart => exact ⟨0,Nat.zero_le _,rfl,by rw [List.drop_zero];exact HE.out,belowNew w _⟩
 case round =>
  obtain ⟨k,hk,rfl,hA,hb⟩:=hrel
  have HB:=Lib.hid hb
  have HA:=Lib.hid hA
  clear hb hA
  by_cases hlt:k < m
  ·have hd:decide ((k:Int) < (m:Int)) = true:=by simp;omega
   obtain ⟨b,o,rfl,hb,a',c',c0,hc',hL⟩:=H1.out.at k (by rw [← HN.out];exact hlt)
   have a0:wr.cell? ⟨b,o + k,none⟩ = _:=(HB.out.cell (p:=⟨b,o + k,none⟩) hb).trans c0
   have HST:=Lib.hid (chkRs_step n k (by rw [← HN.out];exact hlt))
   have hsm:=HS.out.2 k (by rw [← HN.out];exact hlt)
   generalize n.getD k [] = r at a0 HST hsm hc' hL
   obtain ⟨Z,hZ⟩:∃ Z,Z = chkR r:=⟨_,rfl⟩
   obtain ⟨q,hq⟩:∃ q,q = r.length:=⟨_,rfl⟩
   rw [← hZ] at HST
   rw [← hq] at a0 hc'
   have HCK:=Lib.hid (chkL_any a' c' q r wr (hL.below HB.out) hq hc' hsm (HT.out.below HB.out))
   rw [← hZ] at HCK
   clear c0 hb hsm hZ hq hL hc'
   by_cases hz:Z = 0
   ·subst hz
    have HF:=Lib.hid (show E = chkRs (n.drop (k + 1)) by rw [HA.out,HST.out,if_pos rfl])
    go_wp2_with (go_at_call 109;(with_reducible refine HCK.out.mono ?_);rintro e w1 ⟨rfl,hb1⟩;have HB1:=Lib.hid (below_next HB.out hb1);clear hb1)
    go_roundw
    case rel => exact ⟨k + 1,by omega,by go_num,HF.out,HB1.out⟩
    case measure => simp [intOf];omega
   ·have HF:=Lib.hid (show E = Z by rw [HA.out,HST.out,if_neg hz])
    have hz1:=errno_ne hz
    go_wp2_with (go_at_call 109;(with_reducible refine HCK.out.mono ?_);rintro e w1 ⟨rfl,hb1⟩;have HB1:=Lib.hid (below_next HB.out hb1);clear hb1)
    go_ret
    exact ⟨by rw [HF.out];rfl,HB1.out⟩
  ·have hd:decide ((k:Int) < (m:Int)) = false:=by simp;omega
   have HF:=Lib.hid (show E = 0 by rw [HA.out,chkRs_end _ _ (by rw [← HN.out];omega)])
   go_wp2_with fail
   go_ret
   exact ⟨by rw [HF.out];rfl,HB.out⟩
set_option maxRecDepth 100000 in
set_option maxHeartbeats 4000000 in
theorem rchkL_any (a0:Option Addr) (c n:Nat) (l:List At) (w:World) (h:ALies w a0 l) (hn:n = l.length) (hs:SmallR l) :
  Calls Tryz.prog 89 #[.slice a0 n c] w fun e w' => e = .returned (.int .i64 ((chkL [] l:Nat):Int)) ∧ Below w.heap.size w w':=by
 have hL:n ≤ 1000000:=by rw [hn];exact hs.1
 obtain ⟨E,hE⟩:∃ E,E = chkL [] l:=⟨_,rfl⟩
 rw [← hE]
 have HE:=Lib.hid hE
 have H1:=Lib.hid h
 have HN:=Lib.hid hn
 have HS:=Lib.hid hs
 clear h hn hs hE
 go_enter Tryz.func89,Tryz.ntmps89
 go_wp2_with fail
 go_loopw [8] (fun i wr => ∃ k:Nat,k ≤ n ∧ i = .int .i64 k ∧ E = chkL (l.take k) (l.drop k) ∧ Below w.heap.size w wr) (fun i _ => n - (intOf i).toNat)
 case atStart => exact ⟨0,Nat.zero_le _,rfl,by rw [List.take_zero,List.drop_zero];exact HE.out,Below.refl _ _⟩
 case round =>
  obtain ⟨k,hk,rfl,hA,hb⟩:=hrel
  have HB:=Lib.hid hb
  have HA:=Lib.hid hA
  clear hb hA
  by_cases hlt:k < n
  ·have hd:decide ((k:Int) < (n:Int)) = true:=by simp;omega
   obtain ⟨b,o,rfl,hb,c0,c1,c2⟩:=H1.out.at k (by rw [← HN.out];exact hlt)
   have a0:wr.cell? ⟨b,o + k * 3,none⟩ = _:=(HB.out.cell (p:=⟨b,o + k * 3,none⟩) hb).trans c0
   have a1:wr.cell? ⟨b,o + k * 3 + 1,none⟩ = _:=(HB.out.cell (p:=⟨b,o + k * 3 + 1,none⟩) hb).trans c1
   have a2:wr.cell? ⟨b,o + k * 3 + 2,none⟩ = _:=(HB.out.cell (p:=⟨b,o + k * 3 + 2,none⟩) hb).trans c2
   have HST:=Lib.hid (chkL_step l k (by rw [← HN.out];exact hlt))
   have hsm:=HS.out.2 k (by rw [← HN.out];exact hlt)
   generalize l.getD k noAt = y at a0 a1 a2 HST hsm
   obtain ⟨t,kd,v⟩:=y
   have HO:=Lib.hid (fun W => rvalid_b t W (by have:=hsm.1;simp at this;omega))
   have HV:=Lib.hid (fun W => rval_any kd v W (by have:=hsm.2;simp at this;omega))
   obtain ⟨w0,hw0⟩:∃ w0,w0 = wr.alloc (.cells #[.string t,.int .i64 kd,.string v] 86):=⟨_,rfl⟩
   have hwr:wr.alloc (.cells #[.string t,.int .i64 kd,.string v] 86) = w0:=hw0.symm
   have HW:=Lib.hid (show Below wr.heap.size wr w0 by rw [hw0];exact belowNew wr _)
   have hc0:w0.cell? ⟨wr.heap.size,0,none⟩ = some (.string t):=by rw [hw0];exact box_cell wr _ _ _ _
   have hc1:w0.cell? ⟨wr.heap.size,1,none⟩ = some (.int .i64 kd):=by rw [hw0,cell_of_row _ _ 1 _ _ _ (heap_alloc_new wr _)];rfl
   have hc2:w0.cell? ⟨wr.heap.size,2,none⟩ = some (.string v):=by rw [hw0,cell_of_row _ _ 2 _ _ _ (heap_alloc_new wr _)];rfl
   have hlt0:wr.heap.size < w0.heap.size:=block_lt hc0
   have HBW:=Lib.hid (below_next HB.out HW.out)
   clear c0 c1 c2 hb hsm hw0
   rcases chk_ways (l.take k) t v kd with ⟨h1,e⟩ | ⟨h1,h2,e⟩ | ⟨h1,h2,h3,e⟩ | ⟨h1,h2,h3,h4,e⟩ | ⟨h1,h2,h3,h4,h5,e⟩ | ⟨h1,h2,h3,h4,h5,e⟩
   ·have HF:=Lib.hid (show E = 11 by rw [HA.out,HST.out,e];rfl)
    rw [h1] at HO
    clear e h1
    go_wp2_with (go_at_call 112;(with_reducible refine (HO.out _).mono ?_);rintro e w1 ⟨rfl,hb⟩;have HX:=Lib.hid hb;have g0:=(hb.cell (p:=⟨wr.heap.size,0,none⟩) hlt0).trans hc0;have g1:=(hb.cell (p:=⟨wr.heap.size,1,none⟩) hlt0).trans hc1;have g2:=(hb.cell (p:=⟨wr.heap.size,2,none⟩) hlt0).trans hc2;have hlt1:=Nat.lt_of_lt_of_le hlt0 hb.size;clear hb)
    go_ret
    exact ⟨by rw [HF.out];rfl,below_next HBW.out HX.out⟩
   ·have HF:=Lib.hid (show E = 13 by rw [HA.out,HST.out,e];rfl)
    rw [h1] at HO
    have hd0:((v.size:Int) == 0) = true:=beq_iff_eq.2 (by rw [h2];rfl)
    clear e h1 h2
    go_wp2_with (go_at_call 112;(with_reducible refine (HO.out _).mono ?_);rintro e w1 ⟨rfl,hb⟩;have HX:=Lib.hid hb;have g0:=(hb.cell (p:=⟨wr.heap.size,0,none⟩) hlt0).trans hc0;have g1:=(hb.cell (p:=⟨wr.heap.size,1,none⟩) hlt0).trans hc1;have g2:=(hb.cell (p:=⟨wr.heap.size,2,none⟩) hlt0).trans hc2;have hlt1:=Nat.lt_of_lt_of_le hlt0 hb.size;clear hb)
    go_ret
    exact ⟨by rw [HF.out];rfl,below_next HBW.out HX.out⟩
   ·have HF:=Lib.hid (show E = 13 by rw [HA.out,HST.out,e];rfl)
    rw [h1] at HO
    rw [h3] at HV
    have hd0:((v.size:Int) == 0) = false:=beq_eq_false_iff_ne.2 (by omega)
    clear e h1 h2 h3
    go_wp2_with (first | (go_at_call 112;(with_reducible refine (HO.out _).mono ?_);rintro e w1 ⟨rfl,hb⟩;have HX:=Lib.hid hb;have g0:=(hb.cell (p:=⟨wr.heap.size,0,none⟩) hlt0).trans hc0;have g1:=(hb.cell (p:=⟨wr.heap.size,1,none⟩) hlt0).trans hc1;have g2:=(hb.cell (p:=⟨wr.heap.size,2,none⟩) hlt0).trans hc2;have hlt1:=Nat.lt_of_lt_of_le hlt0 hb.size;clear hb) | (go_at_call 113;(with_reducible refine (HV.out _).mono ?_);rintro e w2 ⟨rfl,hb⟩;have q0:=(hb.cell (p:=⟨wr.heap.size,0,none⟩) hlt1).trans g0;have q1:=(hb.cell (p:=⟨wr.heap.size,1,none⟩) hlt1).trans g1;have q2:=(hb.cell (p:=⟨wr.heap.size,2,none⟩) hlt1).trans g2;have HX:=Lib.hid (below_next HX.out hb);clear hb))
    go_ret
    exact ⟨by rw [HF.out];rfl,below_next HBW.out HX.out⟩
   ·have HF:=Lib.hid (show E = 2 by rw [HA.out,HST.out,e];rfl)
    rw [h1] at HO
    rw [h3] at HV
    have hd0:((v.size:Int) == 0) = false:=beq_eq_false_iff_ne.2 (by omega)
    have hd4:decide ((64:Int) < (v.size:Int)) = true:=by simp;omega
    clear e h1 h2 h3 h4
    go_wp2_with (first | (go_at_call 112;(with_reducible refine (HO.out _).mono ?_);rintro e w1 ⟨rfl,hb⟩;have HX:=Lib.hid hb;have g0:=(hb.cell (p:=⟨wr.heap.size,0,none⟩) hlt0).trans hc0;have g1:=(hb.cell (p:=⟨wr.heap.size,1,none⟩) hlt0).trans hc1;have g2:=(hb.cell (p:=⟨wr.heap.size,2,none⟩) hlt0).trans hc2;have hlt1:=Nat.lt_of_lt_of_le hlt0 hb.size;clear hb) | (go_at_call 113;(with_reducible refine (HV.out _).mono ?_);rintro e w2 ⟨rfl,hb⟩;have q0:=(hb.cell (p:=⟨wr.heap.size,0,none⟩) hlt1).trans g0;have q1:=(hb.cell (p:=⟨wr.heap.size,1,none⟩) hlt1).trans g1;have q2:=(hb.cell (p:=⟨wr.heap.size,2,none⟩) hlt1).trans g2;have HX:=Lib.hid (below_next HX.out hb);clear hb))
    go_ret
    exact ⟨by rw [HF.out];rfl,below_next HBW.out HX.out⟩
   ·have HF:=Lib.hid (show E = 10 by rw [HA.out,HST.out,e];rfl)
    have H5:=Lib.hid h5
    rw [h1] at HO
    rw [h3] at HV
    have hd0:((v.size:Int) == 0) = false:=beq_eq_false_iff_ne.2 (by omega)
    have hd4:decide ((64:Int) < (v.size:Int)) = false:=by simp;omega
    clear e h1 h2 h3 h4 h5
    go_wp2_with (first | (go_at_call 112;(with_reducible refine (HO.out _).mono ?_);rintro e w1 ⟨rfl,hb⟩;have HX:=Lib.hid hb;have g0:=(hb.cell (p:=⟨wr.heap.size,0,none⟩) hlt0).trans hc0;have g1:=(hb.cell (p:=⟨wr.heap.size,1,none⟩) hlt0).trans hc1;have g2:=(hb.cell (p:=⟨wr.heap.size,2,none⟩) hlt0).trans hc2;have hlt1:=Nat.lt_of_lt_of_le hlt0 hb.size;clear hb) | (go_at_call 113;(with_reducible refine (HV.out _).mono ?_);rintro e w2 ⟨rfl,hb⟩;have q0:=(hb.cell (p:=⟨wr.heap.size,0,none⟩) hlt1).trans g0;have q1:=(hb.cell (p:=⟨wr.heap.size,1,none⟩) hlt1).trans g1;have q2:=(hb.cell (p:=⟨wr.heap.size,2,none⟩) hlt1).trans g2;have HX:=Lib.hid (below_next HX.out hb);clear hb))
    clear q1 q2 g0 g1 g2 hlt1
    generalize wr.heap.size = G at q0 ⊢
    go_loopw [5] (fun i ws => ∃ j:Nat,j ≤ k ∧ i = .int .i64 j ∧ ((l.take j).any fun b => decide (b.1 = t)) = false ∧ Below w2.heap.size w2 ws) (fun i _ => k - (intOf i).toNat)
    case atStart => exact ⟨0,Nat.zero_le _,rfl,by simp,Below.refl _ _⟩
    case round =>
     obtain ⟨j,hj,rfl,hJ,hbj⟩:=hrel
     have HJ:=Lib.hid hJ
     have HBJ:=Lib.hid hbj
     have r0:=(hbj.cell (p:=⟨G,0,none⟩) (block_lt q0)).trans q0
     clear hJ hbj
     by_cases hjk:j < k
     ·have hdj:decide ((j:Int) < (k:Int)) = true:=by simp;omega
      obtain ⟨b2,o2,e2,hb2,c0,_,_⟩:=H1.out.at j (by rw [← HN.out];omega)
      obtain ⟨rfl,rfl⟩:b = b2 ∧ o = o2:=by simpa using e2
      have j0:wr.cell? ⟨b,o + j * 3,none⟩ = _:=((below_next HBW.out (below_next HX.out HBJ.out)).cell (p:=⟨b,o + j * 3,none⟩) hb2).trans c0
      have HT2:=Lib.hid (takeD l j (by rw [← HN.out];omega) noAt)
      generalize (l.getD j noAt) = y at j0 HT2
      obtain ⟨t2,kd2,v2⟩:=y
      have hjn:j < n:=by omega
      clear c0 hb2 e2
      have HE2:=Lib.hid (beq_str t2 t)
      by_cases hx:t2 = t
      ·have hbq:(t2.toList == t.toList) = true:=by rw [HE2.out];exact decide_eq_true hx
       clear hx
       go_wp2_with fail
       go_region
       go_wp2_with fail
       go_ret
       exact ⟨by rw [HF.out];rfl,(below_next HBW.out (below_next HX.out HBJ.out)).drew⟩
      ·have hbq:(t2.toList == t.toList) = false:=by rw [HE2.out];exact decide_eq_false hx
       have HJ2:=Lib.hid (show ((l.take (j + 1)).any fun b => decide (b.1 = t)) = false by rw [HT2.out,List.any_append,HJ.out];simp [hx])
       clear hx
       go_wp2_with fail
       go_region
       go_wp2_with fail
       go_roundw
       case rel => exact ⟨j + 1,by omega,by go_num,HJ2.out,HBJ.out.drew⟩
       case measure => simp [intOf];omega
     ·have hdj:decide ((j:Int) < (k:Int)) = false:=by simp;omega
      exfalso
      have e3:=HJ.out
      rw [show j = k by omega,H5.out] at e3
      cases e3
   ·have HF:=Lib.hid (show E = chkL (l.take (k + 1)) (l.drop (k + 1)) by rw [HA.out,HST.out,e];rfl)
    have H5:=Lib.hid h5
    rw [h1] at HO
    rw [h3] at HV
    have hd0:((v.size:Int) == 0) = false:=beq_eq_false_iff_ne.2 (by omega)
    have hd4:decide ((64:Int) < (v.size:Int)) = false:=by simp;omega
    clear e h1 h2 h3 h4 h5
    go_wp2_with (first | (go_at_call 112;(with_reducible refine (HO.out _).mono ?_);rintro e w1 ⟨rfl,hb⟩;have HX:=Lib.hid hb;have g0:=(hb.cell (p:=⟨wr.heap.size,0,none⟩) hlt0).trans hc0;have g1:=(hb.cell (p:=⟨wr.heap.size,1,none⟩) hlt0).trans hc1;have g2:=(hb.cell (p:=⟨wr.heap.size,2,none⟩) hlt0).trans hc2;have hlt1:=Nat.lt_of_lt_of_le hlt0 hb.size;clear hb) | (go_at_call 113;(with_reducible refine (HV.out _).mono ?_);rintro e w2 ⟨rfl,hb⟩;have q0:=(hb.cell (p:=⟨wr.heap.size,0,none⟩) hlt1).trans g0;have q1:=(hb.cell (p:=⟨wr.heap.size,1,none⟩) hlt1).trans g1;have q2:=(hb.cell (p:=⟨wr.heap.size,2,none⟩) hlt1).trans g2;have HX:=Lib.hid (below_next HX.out hb);clear hb))
    clear q1 q2 g0 g1 g2 hlt1
    generalize wr.heap.size = G at q0 ⊢
    go_loopw [5] (fun i ws => ∃ j:Nat,j ≤ k ∧ i = .int .i64 j ∧ ((l.take j).any fun b => decide (b.1 = t)) = false ∧ Below w2.heap.size w2 ws) (fun i _ => k - (intOf i).toNat)
    case atStart => exact ⟨0,Nat.zero_le _,rfl,by simp,Below.refl _ _⟩
    case round =>
     obtain ⟨j,hj,rfl,hJ,hbj⟩:=hrel
     have HJ:=Lib.hid hJ
     have HBJ:=Lib.hid hbj
     have r0:=(hbj.cell (p:=⟨G,0,none⟩) (block_lt q0)).trans q0
     clear hJ hbj
     by_cases hjk:j < k
     ·have hdj:decide ((j:Int) < (k:Int)) = true:=by simp;omega
      obtain ⟨b2,o2,e2,hb2,c0,_,_⟩:=H1.out.at j (by rw [← HN.out];omega)
      obtain ⟨rfl,rfl⟩:b = b2 ∧ o = o2:=by simpa using e2
      have j0:wr.cell? ⟨b,o + j * 3,none⟩ = _:=((below_next HBW.out (below_next HX.out HBJ.out)).cell (p:=⟨b,o + j * 3,none⟩) hb2).trans c0
      have HT2:=Lib.hid (takeD l j (by rw [← HN.out];omega) noAt)
      generalize (l.getD j noAt) = y at j0 HT2
      obtain ⟨t2,kd2,v2⟩:=y
      have hjn:j < n:=by omega
      clear c0 hb2 e2
      have HE2:=Lib.hid (beq_str t2 t)
      by_cases hx:t2 = t
      ·have hbq:(t2.toList == t.toList) = true:=by rw [HE2.out];exact decide_eq_true hx
       exfalso
       have:=HJ.out
       have e3:=H5.out
       have e4:(l.take k) = l.take (j + 1) ++ (l.take k).drop (j + 1):=by
        conv => lhs;rw [← List.take_append_drop (j + 1) (l.take k)]
        rw [List.take_take,Nat.min_eq_left (by omega)]
       rw [e4,List.any_append,HT2.out,List.any_append] at e3
       simp [hx] at e3
      ·have hbq:(t2.toList == t.toList) = false:=by rw [HE2.out];exact decide_eq_false hx
       have HJ2:=Lib.hid (show ((l.take (j + 1)).any fun b => decide (b.1 = t)) = false by rw [HT2.out,List.any_append,HJ.out];simp [hx])
       clear hx
       go_wp2_with fail
       go_region
       go_wp2_with fail
       go_roundw
       case rel => exact ⟨j + 1,by omega,by go_num,HJ2.out,HBJ.out.drew⟩
       case measure => simp [intOf];omega
     ·have hdj:decide ((j:Int) < (k:Int)) = false:=by simp;omega
      go_wp2_with fail
      go_roundw
      case rel => exact ⟨k + 1,by omega,by go_num,HF.out,below_next HBW.out (below_next HX.out HBJ.out)⟩
      case measure => simp [intOf];omega
  ·have hd:decide ((k:Int) < (n:Int)) = false:=by simp;omega
   have HF:=Lib.hid (show E = 0 by rw [HA.out,chkL_end _ _ _ (by rw [← HN.out];omega)])
   go_wp2_with fail
   go_ret
   exact ⟨by rw [HF.out];rfl,HB.out⟩
theorem Below.only {w w':World} (h:Below w.heap.size w w'):w.grownBy w' none:=⟨h.os,h.tape,h.output,h.size,fun k hk _ => h.block k hk⟩
theorem only_below {w w':World} (h:w.grownBy w' none):Below w.heap.size w w':=⟨h.os,h.tape,h.output,h.size,fun k hk => h.block k hk (by simp)⟩
/-- But for block p,nothing that was there has changed. -/
def But (p:Nat) (w w':World):Prop:=w.grownBy w' (some p)
theorem But.refl (p:Nat) (w:World):But p w w:=World.grownBy.refl w _
theorem But.of {p:Nat} {w w':World} (h:Below w.heap.size w w'):But p w w':=⟨h.os,h.tape,h.output,h.size,fun k hk _ => h.block k hk⟩
theorem But.next {p:Nat} {a b c:World} (h:But p a b) (k:But p b c):But p a c:=World.grownBy.trans h k
theorem But.drew {p:Nat} {a b:World} (h:But p a b):But p a b.drew:=⟨h.os,h.tape,h.output,h.size,h.block⟩
theorem But.alloc {p:Nat} {a b:World} (h:But p a b) (o:Obj):But p a (b.alloc o):=h.next (But.of (belowNew b o))
theorem But.below {p:Nat} {w w':World} (h:But p w w') (hp:p ≤ w.heap.size):Below p w w' :=
 ⟨h.os,h.tape,h.output,h.size,fun k hk => h.block k (by omega) (by simp;omega)⟩
theorem But.set (p j:Nat) (w:World) (v:Value):But p w (w.setCell ⟨p,j,none⟩ v) :=
 ⟨rfl,rfl,rfl,by simp [World.setCell],fun k _ hne => Below.heap_setCell _ _ _ _ (by simpa using hne)⟩
/-- What is of memory behind the deck's block is kept. -/
theorem own_but {w w':World} {p B:Nat} {e:TypeId} {k n:Nat} {v:Value} {xs:List Value} (h:w.ownsRow B e k v n xs) (hb:But p w w') (hB:p < B):w'.ownsRow B e k v n xs :=
 World.ownsRow.kept h hb (by
  rcases h.2 with ⟨hv,_⟩ | ⟨g,cap,cur,hv,hg,_⟩
  ·exact .inl (by rw [hv];rfl)
  ·exact .inr (by rw [hv];simp [Value.ownBlock];omega))
theorem OwnA.but {w w':World} {p B:Nat} {v:Value} {l:List At} (h:OwnA w B v l) (hb:But p w w') (hB:p < B):OwnA w' B v l:=own_but h hb hB
theorem OwnN.but {w w':World} {p B:Nat} {v:Value} {n:Nm} (h:OwnN w B v n) (hb:But p w w') (hB:p < B):OwnN w' B v n:=by
 obtain ⟨vs,h1,h2,h3⟩:=h
 exact ⟨vs,h1,own_but h2 hb hB,fun i hi => (h3 i hi).but hb hB⟩
theorem OwnV.but {w w':World} {p B:Nat} {v:Value} {n:Nm} (h:OwnV w B v n) (hb:But p w w') (hB:p < B):OwnV w' B v n:=by
 obtain ⟨s,h1,h2⟩:=h
 exact ⟨s,h1,h2.but hb hB⟩
theorem OwnV.below {w w':World} {B:Nat} {v:Value} {n:Nm} (h:OwnV w B v n) (hb:Below w.heap.size w w'):OwnV w' B v n:=by
 obtain ⟨s,h1,h2⟩:=h
 exact ⟨s,h1,h2.below hb⟩
theorem OwnV.base {w:World} {B B':Nat} {v:Value} {n:Nm} (h:OwnV w B v n) (hB:B' ≤ B):OwnV w B' v n:=by
 obtain ⟨s,h1,h2⟩:=h
 exact ⟨s,h1,h2.base hB⟩
/-- At the address lie the numbers zs. -/
def ILies (w:World) (a:Option Addr) (zs:List Int):Prop:=zs = [] ∨ ∃ b o,a = some ⟨b,o,none⟩ ∧ ∀ i,i < zs.length → w.cell? ⟨b,o + i,none⟩ = some (.int .i64 (zs.getD i 0))
theorem ILies.at {w:World} {a:Option Addr} {zs:List Int} (h:ILies w a zs) (k:Nat) (hk:k < zs.length):∃ b o,a = some ⟨b,o,none⟩ ∧ w.cell? ⟨b,o + k,none⟩ = some (.int .i64 (zs.getD k 0)):=by
 rcases h with h | ⟨b,o,h1,h2⟩
 ·rw [h] at hk;exact absurd hk (Nat.not_lt_zero _)
 ·exact ⟨b,o,h1,h2 k hk⟩
theorem ILies.below {w w':World} {B:Nat} {a:Option Addr} {zs:List Int} (h:ILies w a zs) (hb:Below B w w') (hB:∀ x,a = some x → zs ≠ [] → x.block < B):ILies w' a zs:=by
 rcases h with h | ⟨b,o,rfl,h⟩
 ·exact .inl h
 ·exact .inr ⟨b,o,rfl,fun i hi => (hb.cell (p:=⟨b,o + i,none⟩) (hB ⟨b,o,none⟩ rfl (fun e => by rw [e] at hi;exact absurd hi (Nat.not_lt_zero _)))).trans (h i hi)⟩
/-- A deck of the numbers zs in block p,at place k. -/
def DeckAt (w:World) (p:Nat) (a:Option Addr) (cap:Nat) (zs:List Int) (k:Nat):Prop :=
 w.heap[p]? = some (.cells #[.slice a zs.length cap,.int .i64 (k:Int)] 59 (0,0)) ∧ ILies w a zs ∧ (∀ x,a = some x → zs ≠ [] → x.block < p) ∧ k ≤ 30000 ∧ zs.length ≤ 9223372036854775807
set_option maxRecDepth 100000 in
set_option maxHeartbeats 1000000 in
theorem next_end (p:Nat) (a:Option Addr) (cap:Nat) (zs:List Int) (k:Nat) (N:Nat) (w:World) (h:DeckAt w p a cap zs k) (hk:zs.length ≤ k) :
  Calls Tryz.prog 11 #[.pointer (some ⟨p,0,none⟩),.int .i64 (N:Int)] w fun e w' => e = .returned (.int .i64 0) ∧ DeckAt w' p a cap zs k ∧ But p w w':=by
 have HD:=Lib.hid h
 obtain ⟨h1,_,_,_,h4⟩:=h
 obtain ⟨n,hn⟩:∃ n,n = zs.length:=⟨_,rfl⟩
 rw [← hn] at h1 hk h4
 have c0:w.cell? ⟨p,0,none⟩ = some (.slice a n cap):=by rw [Lib.cell_of_heap h1];rfl
 have c1:w.cell? ⟨p,1,none⟩ = some (.int .i64 (k:Int)):=by rw [Lib.cell_of_heap h1];rfl
 have d0:decide ((n:Int) ≤ (k:Int)) = true:=by simp;omega
 clear h1 hn
 go_enter Tryz.func11,Tryz.ntmps11
 go_wp2_with fail
 go_region
 go_wp2_with fail
 go_ret
 exact ⟨rfl,HD.out,(But.refl _ _).drew⟩
theorem next_num (z:Int) (N:Nat) (hN:0 < N) (hN2:N ≤ 1099511627776):∃ x y:Int,∃ r:Nat,z.tmod (N:Int) = x ∧ -1099511627776 ≤ x ∧ x ≤ 1099511627776 ∧ x + (N:Int) = y ∧ 0 ≤ y ∧ y ≤ 2199023255552 ∧ y.tmod (N:Int) = (r:Int) ∧ r < N:=by
 have hx1:-(N:Int) < z.tmod (N:Int):=by
  have:=Int.lt_tmod_of_pos z (show (0:Int) < (N:Int) by omega)
  simpa using this
 have hx2:z.tmod (N:Int) < (N:Int):=Int.tmod_lt_of_pos z (by omega)
 refine ⟨_,_,(z.tmod (N:Int) + (N:Int)).tmod (N:Int) |>.toNat,rfl,by omega,by omega,rfl,by omega,by omega,?_,?_⟩
 ·have h1:0 ≤ (z.tmod (N:Int) + (N:Int)).tmod (N:Int):=Int.tmod_nonneg _ (by omega)
  omega
 ·have h2:(z.tmod (N:Int) + (N:Int)).tmod (N:Int) < (N:Int):=Int.tmod_lt_of_pos _ (by omega)
  omega
theorem deck_set {w:World} {p:Nat} {a:Option Addr} {cap:Nat} {zs:List Int} {k:Nat} (h:DeckAt w p a cap zs k) (hk:k < 30000):DeckAt (w.setCell ⟨p,1,none⟩ (.int .i64 ((k:Int) + 1))) p a cap zs (k + 1):=by
 obtain ⟨h1,h2,h3,_,h4⟩:=h
 refine ⟨?_,h2.below ((Below.refl p w).setCell (p:=⟨p,1,none⟩) (Nat.le_refl _) _) h3,h3,by omega,h4⟩
 simp [World.setCell,Array.getElem?_modify,h1]
set_option maxRecDepth 100000 in
set_option maxHeartbeats 1000000 in
theorem next_more (p:Nat) (a:Option Addr) (cap:Nat) (zs:List Int) (k:Nat) (N:Nat) (w:World) (h:DeckAt w p a cap zs k) (hk:k < zs.length) (hk2:k < 30000) (hN:0 < N) (hN2:N ≤ 1099511627776) :
  Calls Tryz.prog 11 #[.pointer (some ⟨p,0,none⟩),.int .i64 (N:Int)] w fun e w' => (∃ r:Nat,r < N ∧ e = .returned (.int .i64 (r:Int))) ∧ DeckAt w' p a cap zs (k + 1) ∧ But p w w':=by
 have HD:=Lib.hid h
 obtain ⟨h1,h2,h3,_,h4⟩:=h
 obtain ⟨b,o,ha,hc⟩:=h2.at k hk
 have hbp:=h3 _ ha (fun e => by rw [e] at hk;exact absurd hk (Nat.not_lt_zero _))
 subst ha
 generalize zs.getD k 0 = z at hc
 obtain ⟨x,y,r,e1,x1,x2,e2,y1,y2,e3,hr⟩:=next_num z N hN hN2
 obtain ⟨n,hn⟩:∃ n,n = zs.length:=⟨_,rfl⟩
 rw [← hn] at h1 hk h4
 have c0:w.cell? ⟨p,0,none⟩ = some (.slice (some ⟨b,o,none⟩) n cap):=by rw [Lib.cell_of_heap h1];rfl
 have c1:w.cell? ⟨p,1,none⟩ = some (.int .i64 (k:Int)):=by rw [Lib.cell_of_heap h1];rfl
 have f1:w.frozen? ⟨p,1,none⟩ = false:=Lib.frozen_of_heap h1 1
 have hne:b ≠ p:=by simp at hbp;omega
 have d0:decide ((n:Int) ≤ (k:Int)) = false:=by simp;omega
 have HR:=Lib.hid hr
 clear h1 hn h2 h3 hr hbp
 go_enter Tryz.func11,Tryz.ntmps11
 go_wp2_with fail
 go_region
 go_wp2_with fail
 go_region
 go_wp2_with fail
 go_ret
 exact ⟨⟨r,HR.out,rfl⟩,deck_set HD.out hk2,(But.set p 1 w _).drew.drew⟩
theorem next_any (p:Nat) (a:Option Addr) (cap:Nat) (zs:List Int) (k:Nat) (N:Nat) (w:World) (h:DeckAt w p a cap zs k) (hk2:k < 30000) (hN:0 < N) (hN2:N ≤ 1099511627776) :
  Calls Tryz.prog 11 #[.pointer (some ⟨p,0,none⟩),.int .i64 (N:Int)] w fun e w' => ∃ r k':Nat,r < N ∧ e = .returned (.int .i64 (r:Int)) ∧ DeckAt w' p a cap zs k' ∧ k' ≤ k + 1 ∧ But p w w':=by
 by_cases hk:k < zs.length
 ·exact (next_more p a cap zs k N w h hk hk2 hN hN2).mono fun e w' hh => by
   obtain ⟨⟨r,hr,he⟩,h1,h2⟩:=hh
   exact ⟨r,k + 1,hr,he,h1,Nat.le_refl _,h2⟩
 ·exact (next_end p a cap zs k N w h (by omega)).mono fun e w' hh => ⟨0,k,hN,by rw [hh.1];rfl,hh.2.1,by omega,hh.2.2⟩
set_option maxRecDepth 100000 in
theorem new_any (a:Option Addr) (cap:Nat) (zs:List Int) (w:World) (hl:ILies w a zs) (hz:zs.length ≤ 9223372036854775807) :
  Calls Tryz.prog 9 #[.slice a zs.length cap] w fun e w' => e = .returned (.pointer (some ⟨w.heap.size,0,none⟩)) ∧ DeckAt w' w.heap.size a cap zs 0 ∧ Below w.heap.size w w':=by
 have ha:∀ x,a = some x → zs ≠ [] → x.block < w.heap.size:=by
  intro x hx hne
  rcases hl with h | ⟨b,o,h1,h2⟩
  ·exact absurd h hne
  ·obtain rfl:=Option.some.inj (hx.symm.trans h1)
   exact block_lt_of_cell (h2 0 (List.length_pos_iff.2 hne))
 have HL:=Lib.hid hl
 obtain ⟨n,hn⟩:∃ n,n = zs.length:=⟨_,rfl⟩
 have HN:=Lib.hid hn
 rw [← hn]
 clear hl hn
 go_enter Tryz.func9,Tryz.ntmps9
 go_wp2_with fail
 go_ret
 have hb:Below w.heap.size w (w.alloc (.cells #[.slice a n cap,.int .i64 0] 59)):=(Below.refl _ _).alloc (Nat.le_refl _) _
 refine ⟨rfl,⟨?_,HL.out.below hb ha,ha,by omega,hz⟩,hb⟩
 rw [← HN.out]
 exact heap_alloc_new w _
theorem DeckAt.lt {w:World} {p:Nat} {a:Option Addr} {cap:Nat} {zs:List Int} {k:Nat} (h:DeckAt w p a cap zs k):p < w.heap.size:=(Array.getElem?_eq_some_iff.1 h.1).1
/-- A call that leaves all old memory alone leaves the deck alone. -/
theorem DeckAt.below {w w':World} {p:Nat} {a:Option Addr} {cap:Nat} {zs:List Int} {k:Nat} (h:DeckAt w p a cap zs k) (hb:Below w.heap.size w w'):DeckAt w' p a cap zs k:=by
 have hp:=h.lt
 obtain ⟨h1,h2,h3,h5,h4⟩:=h
 exact ⟨(hb.block p hp).trans h1,h2.below (hb.mono (Nat.le_of_lt hp)) h3,h3,h5,h4⟩
/-- Growth of a row of a block behind the deck's leaves the deck alone. -/
theorem DeckAt.grown {w w':World} {p:Nat} {a:Option Addr} {cap:Nat} {zs:List Int} {k:Nat} {row:Option Nat} (h:DeckAt w p a cap zs k) (hg:w.grownBy w' row) (hr:∀ j,row = some j → p < j):DeckAt w' p a cap zs k:=by
 have hp:=h.lt
 obtain ⟨h1,h2,h3,h5,h4⟩:=h
 have hb:Below p w w':=⟨hg.os,hg.tape,hg.output,hg.size,fun j hj => hg.block j (by omega) (fun e => by have:=hr j e.symm;omega)⟩
 exact ⟨(hg.block p hp (fun e => by have:=hr p e.symm;omega)).trans h1,h2.below hb h3,h3,h5,h4⟩
open Go.RowKit Go.Maps
theorem laidOut:laidOutB Tryz.prog = true:=by kernel_rfl
theorem fLaw:Keyed Tryz.prog 183:=Keyed.of_law (deep_law_laid laidOut (m:=2) (by omega) (by decide +kernel) (by kernel_rfl) (by kernel_rfl))
/-- A pair as a value and as a key. -/
def fV (p:ByteArray × ByteArray):Value:=.agg #[.string p.1,.string p.2]
def fK (p:ByteArray × ByteArray):Lit:=.string (keyBytes [.string p.1.data.toList,.string p.2.data.toList])
theorem fLits (d:Nat) (a b:ByteArray) (h1:a.size ≤ maxLen) (h2:b.size ≤ maxLen):Tryz.prog.keyLits (d + 2) 183 [.string a,.string b] = some [.string a.data.toList,.string b.data.toList]:=by
 have c1:Tryz.prog.cellsOf 9 = 1:=by kernel_rfl
 have c2:Tryz.prog.cellsOf 183 = 2:=by kernel_rfl
 simp [Program.keyLits,Tryz.underlying183,Tryz.underlying9,c1,c2,h1,h2]
theorem fKey (p:ByteArray × ByteArray) (h1:p.1.size ≤ maxLen) (h2:p.2.size ≤ maxLen):keyOf Tryz.prog 183 (fV p) = some (fK p):=by
 have hk:Tryz.prog.keyType 183 = true:=by kernel_rfl
 have c2:Tryz.prog.cellsOf 183 = 2:=by kernel_rfl
 have hf:(fV p).formed Tryz.prog 183 = true:=by simp [Value.formed,fV,Tryz.underlying183,c2]
 have hsz:1 < Tryz.prog.types.size:=by decide +kernel
 obtain ⟨d,hd⟩:∃ d,Tryz.prog.types.size + 1 = d + 2:=⟨Tryz.prog.types.size - 1,by omega⟩
 unfold keyOf
 rw [Tryz.underlying183]
 show (if (Tryz.prog.keyType 183 && (fV p).formed Tryz.prog 183) = true then (Tryz.prog.keyLits (Tryz.prog.types.size + 1) 183 (fV p).cells.toList).map (fun ls => Lit.string (keyBytes ls)) else none) = _
 rw [if_pos (by rw [hk,hf];rfl),hd]
 show ((Tryz.prog.keyLits (d + 2) 183 [.string p.1,.string p.2]).map (fun ls => Lit.string (keyBytes ls))) = _
 rw [fLits d _ _ h1 h2]
 rfl
def sU {H:Type}:DataW H:=.lit (.bool true)
/-- What foldedSet's map reads as. -/
def setD {H:Type} (l:List At):DataW H:=setOf sU (l.map fun a => fK (fa a))
noncomputable def Rb:Value → Option (DataW Unit × List MemPlace):=plainElem Tryz.prog 4
theorem rb_true:Rb (.bool true) = some (sU,[]):=by
 show plainElem Tryz.prog 4 (.bool true) = _
 unfold plainElem
 rw [Tryz.underlying4];rfl
theorem setD_snoc (l:List At) (a:At):setD (H:=Unit) (l ++ [a]) = (setD l).put (fK (fa a)) sU:=by
 unfold setD
 rw [List.map_append,List.map_singleton,setOf_snoc]
theorem make_hint (n:Int) (w:World):(Instr.makeMap 181 (some (.int .i64 n))).run Tryz.prog w = .ok (.map (some w.heap.size)) (w.alloc (.map #[] 0)):=by
 simp [Instr.makeMap,run_underlying Tryz.underlying181,asInt,asIntOf,Result.andThen]
/-- One key more. -/
theorem set_more {W:World} {B k:Nat} {D:DataW Unit} (h:W.ownsMap Tryz.prog 183 Rb B k D) (hk:k ≤ 1000000) (t f:ByteArray) (h1:t.size ≤ 1000000) (h2:f.size ≤ 1000000) :
  ∃ w2,(Instr.mapUpdate 181 (.map (some B)) (.agg #[.string t,.string f]) (.bool true)).run Tryz.prog W = .ok () w2 ∧ w2.ownsMap Tryz.prog 183 Rb B (k + 1) (D.put (fK (t,f)) sU) ∧ W.grownBy w2 (some B) :=
 h.update fLaw Tryz.underlying181 (by unfold maxLen;omega) (fKey (t,f) (by show t.size ≤ _;unfold maxLen;omega) (by show f.size ≤ _;unfold maxLen;omega)) rb_true
set_option maxRecDepth 100000 in
set_option maxHeartbeats 4000000 in
theorem fset_any (a0:Option Addr) (c n:Nat) (l:List At) (w:World) (h:ALies w a0 l) (hn:n = l.length) (hs:SmallR l) :
  Calls Tryz.prog 167 #[.slice a0 n c] w fun e w' => e = .returned (.map (some w.heap.size)) ∧ w'.ownsMap Tryz.prog 183 Rb w.heap.size n (setD l) ∧ Below w.heap.size w w':=by
 have hL:n ≤ 1000000:=by rw [hn];exact hs.1
 have H1:=Lib.hid h
 have HN:=Lib.hid hn
 have HS:=Lib.hid hs
 have hmm:=make_hint
 clear h hn hs
 go_enter Tryz.func167,Tryz.ntmps167
 go_wp2_with fail
 go_loopw [11] (fun i wr => ∃ k:Nat,k ≤ n ∧ i = .int .i64 k ∧ wr.ownsMap Tryz.prog 183 Rb w.heap.size k (setD (l.take k)) ∧ Below w.heap.size w wr) (fun i _ => n - (intOf i).toNat)
 case atStart => exact ⟨0,Nat.zero_le _,rfl,World.ownsMap_made _ _ _ _,belowNew w _⟩
 case round =>
  obtain ⟨k,hk,rfl,hA,hb⟩:=hrel
  have HB:=Lib.hid hb
  have HA:=Lib.hid hA
  clear hb hA
  by_cases hlt:k < n
  ·have hd:decide ((k:Int) < (n:Int)) = true:=by simp;omega
   obtain ⟨b,o,rfl,hb,c0,c1,c2⟩:=H1.out.at k (by rw [← HN.out];exact hlt)
   have a0:wr.cell? ⟨b,o + k * 3,none⟩ = _:=(HB.out.cell (p:=⟨b,o + k * 3,none⟩) hb).trans c0
   have a1:wr.cell? ⟨b,o + k * 3 + 1,none⟩ = _:=(HB.out.cell (p:=⟨b,o + k * 3 + 1,none⟩) hb).trans c1
   have a2:wr.cell? ⟨b,o + k * 3 + 2,none⟩ = _:=(HB.out.cell (p:=⟨b,o + k * 3 + 2,none⟩) hb).trans c2
   have HT:=Lib.hid (takeD l k (by rw [← HN.out];exact hlt) noAt)
   have hsm:=HS.out.2 k (by rw [← HN.out];exact hlt)
   generalize l.getD k noAt = y at a0 a1 a2 HT hsm
   obtain ⟨t,kd,v⟩:=y
   have HM1:=Lib.hid hsm.1
   have HM2:=Lib.hid hsm.2
   clear c0 c1 c2 hb hsm
   go_wp2_with fail
   obtain ⟨f,hf⟩:∃ f,f = foldS v:=⟨_,rfl⟩
   have HFZ:=Lib.hid (show f.size ≤ 1000000 by rw [hf];exact Nat.le_trans (foldS_size v) HM2.out)
   have HTZ:=Lib.hid (show t.size ≤ 1000000 from HM1.out)
   have HKZ:=Lib.hid (show k ≤ 1000000 by omega)
   have HFO:=Lib.hid (fun W => foldS_any v W (Nat.le_trans (show v.size ≤ 1000000 from HM2.out) (by omega)))
   rw [← hf] at HFO
   have HST:=Lib.hid (show setD (H:=Unit) (l.take (k + 1)) = (setD (l.take k)).put (fK (t,f)) sU by rw [HT.out,setD_snoc,hf];rfl)
   have HBA:=Lib.hid (show Below w.heap.size w (wr.alloc (.cells #[.string t,.int .i64 kd,.string v] 86)) from below_next HB.out (belowNew wr _))
   have HUP:=Lib.hid (fun W1 (hb1:Below (wr.alloc (.cells #[.string t,.int .i64 kd,.string v] 86)).drew.heap.size (wr.alloc (.cells #[.string t,.int .i64 kd,.string v] 86)).drew W1) => set_more (((HA.out.alloc (.cells #[.string t,.int .i64 kd,.string v] 86)).drew).kept (Below.only hb1) (by simp)) HKZ.out t f HTZ.out HFZ.out)
   have HG0:=Lib.hid (fun W1 (hb1:Below (wr.alloc (.cells #[.string t,.int .i64 kd,.string v] 86)).drew.heap.size (wr.alloc (.cells #[.string t,.int .i64 kd,.string v] 86)).drew W1) => (hb1.cell (p:=⟨wr.heap.size,0,none⟩) (block_lt (box_cell wr (.string t) (.int .i64 kd) (.string v) 86))).trans (box_cell wr (.string t) (.int .i64 kd) (.string v) 86))
   clear hf
   go_region_with (go_at_call 192;(with_reducible refine (HFO.out _).mono ?_);rintro e w1 ⟨rfl,hb1⟩;obtain ⟨w2,hrun,hown2,hg2⟩:=HUP.out _ hb1;have g0:=HG0.out _ hb1;have HB1:=Lib.hid (below_next HBA.out.drew hb1);have HO:=Lib.hid hown2;have HG:=Lib.hid hg2;clear hb1 hown2 hg2)
   all_goals
    go_wp2_with fail
    go_roundw
    case rel => exact ⟨k + 1,by omega,by go_num,by rw [HST.out];exact HO.out,HB1.out.grown HG.out HB1.out.size (fun j e => by cases e;exact Nat.le_refl _)⟩
    case measure => simp [intOf];omega
  ·have hd:decide ((k:Int) < (n:Int)) = false:=by simp;omega
   have HF:=Lib.hid (show l.take k = l by rw [List.take_of_length_le (by rw [← HN.out];omega)])
   go_wp2_with fail
   go_ret
   exact ⟨rfl,by have:=HA.out;rw [HF.out] at this;exact this.mono hk,HB.out⟩
end Go.Proofs.YtbpdenfiifcfcaaGreatDoor
