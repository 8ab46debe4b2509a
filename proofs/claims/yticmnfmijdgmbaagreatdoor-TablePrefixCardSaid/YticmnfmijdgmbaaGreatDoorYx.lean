/- Ends: where one may be behind a row. -/
import Derived.Test.YticmnfmijdgmbaaGreatDoorGa
import Derived.Test.YticmnfmijdgmbaaGreatDoorGc
import Derived.Test.YticmnfmijdgmbaaGreatDoorZt
set_option linter.unusedVariables false
set_option linter.unusedSimpArgs false
namespace Go.Proofs.YticmnfmijdgmbaaGreatDoor
open Go Go.RowKit Go.Lib
open X14 (It exG closeX iterB BuiltOk BuiltMany rightX behX sortX)
open S13 (u64 bitN top E0 F0 Sub hasN)
open S16
open S13.X15 (Pl LeastA askX places cxB)
def bO (n:Nat) (P:Nat->Bool):Obj:=.cells ((List.range n).map fun k=>Value.bool (P k)).toArray 4 (0,0)
theorem bO_cell {w:World} {b n:Nat} {P:Nat->Bool} (h:w.heap[b]?=some (bO n P)) {k:Nat} (hk:k < n):w.cell? ⟨b,k,none⟩=some (.bool (P k)):=by
 rw [coQ h k,List.getElem?_toArray,List.getElem?_map,List.getElem?_range hk]
 rfl
theorem bO_set {w:World} {b n:Nat} {P:Nat->Bool} (h:w.heap[b]?=some (bO n P)) {k:Nat} (hk:k < n) (v:Bool):(w.setCell ⟨b,k,none⟩ (.bool v)).heap[b]?=some (bO n fun j=>if j=k then v else P j):=by
 rw [heap_setCell_same _ _ k _ 4 _ h,List.setIfInBounds_toArray]
 unfold bO
 congr 3
 refine List.ext_getElem? fun j=>?_
 rw [List.getElem?_set,List.getElem?_map]
 by_cases hj:j < n
 ·rw [List.getElem?_map,List.getElem?_range hj]
  by_cases e:k=j
  ·subst e; simp [hj]
  ·rw [if_neg e]
   show some (Value.bool (P j))=some (Value.bool (if j=k then v else P j))
   rw [if_neg (fun h=>e h.symm)]
 ·rw [List.getElem?_map,List.getElem?_eq_none (by simpa using hj)]
  rw [if_neg (by omega)]
  rfl
theorem bO_congr {n:Nat} {P Q:Nat->Bool} (h:∀ k,k < n->P k=Q k):bO n P=bO n Q:=by
 unfold bO
 congr 2
 exact List.map_congr_left fun k hk=>by rw [h k (List.mem_range.1 hk)]
theorem bO_made (n:Nat):Obj.cells (Array.replicate n (.bool false)) 4 (0,0)=bO n fun _=>false:=by
 unfold bO
 congr 1
 refine Array.ext (by simp) fun i h1 h2=>?_
 simp
def CanAt (w:World) (cv:Value) (S M:Nat) (C:Nat->Nat->Nat->Bool):Prop:=RowsAt w cv S fun A u=>RowsAt w u M fun m u'=>RowAt u' M fun k b off=>w.cell? ⟨b,off + k,none⟩=some (.bool (C A m k))
def partE (l:List Int) (C:Nat->Nat->Nat->Bool) (s:Int) (R:Nat->Bool) (k e:Nat):Bool:=
 if 0<=s then decide (0 < e) && decide (e<=k) && R (e - 1) && decide (l[e - 1]?=some s) else (List.range k).any fun m=>decide (m<=e) && R m && C (-1 - s).toNat m e
theorem part_zero (l:List Int) (C:Nat->Nat->Nat->Bool) (s:Int) (R:Nat->Bool) (e:Nat):partE l C s R 0 e=false:=by
 unfold partE
 split
 ·by_cases h:0 < e
  ·rw [decide_eq_false (show ¬ e<=0 by omega)]; simp
  ·rw [decide_eq_false h]; simp
 ·rfl
theorem part_all {l:List Int} {C:Nat->Nat->Nat->Bool} {s:Int} {R:Nat->Bool} {M e:Nat} (he:e < M) (hl:l.length + 1=M):partE l C s R M e=LR.stepE l C s R e:=by
 unfold partE LR.stepE
 split
 ·rw [decide_eq_true (show e<=M by omega),Bool.and_true]
 ·rw [Bool.eq_iff_iff,List.any_eq_true,List.any_eq_true]
  constructor
  ·rintro ⟨m,h1,h2⟩
   rw [Bool.and_eq_true,Bool.and_eq_true,decide_eq_true_iff] at h2
   exact ⟨m,List.mem_range.2 (by omega),by rw [h2.1.2,h2.2]; rfl⟩
  ·rintro ⟨m,h1,h2⟩
   rw [Bool.and_eq_true] at h2
   rw [List.mem_range] at h1
   exact ⟨m,List.mem_range.2 (by omega),by rw [h2.1,h2.2,decide_eq_true (show m<=e by omega)]; rfl⟩
theorem part_skip {l:List Int} {C:Nat->Nat->Nat->Bool} {s:Int} {R:Nat->Bool} {k:Nat} (h:R k=false) (e:Nat):partE l C s R (k + 1) e=partE l C s R k e:=by
 unfold partE
 split
 ·by_cases he:e=k + 1
  ·subst he
   rw [show k + 1 - 1=k by omega,h]; simp
  ·by_cases h2:e<=k
   ·rw [decide_eq_true h2,decide_eq_true (show e<=k + 1 by omega)]
   ·rw [decide_eq_false h2,decide_eq_false (show ¬ e<=k + 1 by omega)]
 ·rw [List.range_succ,List.any_append]
  simp [h]
theorem part_term {l:List Int} {C:Nat->Nat->Nat->Bool} {s:Int} (hs:0<=s) {R:Nat->Bool} {k:Nat} (h:R k=true) (e:Nat):partE l C s R (k + 1) e=if e=k + 1 then decide (l[k]?=some s) else partE l C s R k e:=by
 unfold partE
 rw [if_pos hs,if_pos hs]
 by_cases he:e=k + 1
 ·subst he
  rw [if_pos rfl,show k + 1 - 1=k by omega,h]; simp
 ·rw [if_neg he]
  by_cases h2:e<=k
  ·rw [decide_eq_true h2,decide_eq_true (show e<=k + 1 by omega)]
  ·rw [decide_eq_false h2,decide_eq_false (show ¬ e<=k + 1 by omega)]
theorem part_none {l:List Int} {C:Nat->Nat->Nat->Bool} {s:Int} (hs:0<=s) {R:Nat->Bool} {k:Nat} (h:¬ l[k]?=some s) (e:Nat):partE l C s R (k + 1) e=partE l C s R k e:=by
 unfold partE
 rw [if_pos hs,if_pos hs]
 by_cases he:e=k + 1
 ·subst he
  rw [show k + 1 - 1=k by omega,decide_eq_false h]; simp
 ·by_cases h2:e<=k
  ·rw [decide_eq_true h2,decide_eq_true (show e<=k + 1 by omega)]
  ·rw [decide_eq_false h2,decide_eq_false (show ¬ e<=k + 1 by omega)]
theorem part_sort {l:List Int} {C:Nat->Nat->Nat->Bool} {s:Int} (hs:¬ 0<=s) {R:Nat->Bool} {k:Nat} (h:R k=true) (e:Nat):partE l C s R (k + 1) e=(partE l C s R k e || (decide (k<=e) && C (-1 - s).toNat k e)):=by
 unfold partE
 rw [if_neg hs,if_neg hs,List.range_succ,List.any_append]
 simp [h]
theorem keepI {bN:Nat} {wa wr w6:World} {o:Obj} (h:Below bN wa wr/\wr.heap[bN]?=some o) (hb:Below wr.heap.size wr w6):Below bN wa w6/\w6.heap[bN]?=some o:=
 have hl:=(ltQ h.2)
 ⟨h.1.trans (hb.mono (Nat.le_of_lt hl)),(hb.block _ hl).trans h.2⟩
def EndsP (l:List Int) (C:Nat->Nat->Nat->Bool) (rs:List Int) (at_ M:Nat) (w:World) (e:Ending) (w':World):Prop:=
 ∃ b,e=.returned (.slice (some ⟨b,0,none⟩) M M)/\w.heap.size<=b/\w'.heap[b]?=some (bO M (LR.endsE l C rs fun j=>j == at_))/\Below w.heap.size w w'
set_option maxRecDepth 100000 in
set_option maxHeartbeats 16000000 in
theorem Ends_any {w:World} {tv ov sv pv:Value} {st:Int} {cv lv rv:Value} {l rs:List Int} {S M:Nat} {C:Nat->Nat->Nat->Bool} (hC:CanAt w cv S M C) (hl:IntsAt w lv l) (hN:l.length + 1=M) (hM:M<=1000) (hr:IntsAt w rv rs)
  (hrs:∀ s ∈ rs,s < 0->(-1 - s).toNat < S) (hrl:rs.length<=1000) {at_:Nat} (hat:at_ < M) :
  Calls Tryz.prog 85 #[.agg #[tv,ov,sv,pv,.int .i64 st],cv,lv,rv,.int .i64 (at_:Int)] w (EndsP l C rs at_ M w):=by
 obtain ⟨co,cc,rfl,_⟩:=hC.len
 obtain ⟨lo,lc,rfl,_,hlx⟩:=hl.1
 obtain ⟨ro,rc,rfl,_,hrx⟩:=hr.1
 obtain ⟨N,hN0⟩:=nmQ (l.length)
 obtain ⟨RL,hRL⟩:=nmQ (rs.length)
 rw [hN0] at hN hlx ⊢
 rw [hRL] at hrl hrx ⊢
 have HN:=hid (And.intro hN0 (And.intro hRL hN))
 have HLX:=hid hlx
 have HRX:=hid hrx
 have HCA:=hid hC
 have HRS:=hid hrs
 have HRB:=hid hr.2
 have n60:N<=999:=by omega
 have hw:IntKind.i64.wrap ((N:Int) + 1)=(M:Int):=by rw [wrap_small (by omega) (by omega)]; omega
 have a0:(0:Int)<=(at_:Int):=by omega
 have a1:(at_:Int) < (M:Int):=by omega
 obtain ⟨W1,e1⟩:=nmQ (w.alloc (.cells #[tv,ov,sv,pv,.int .i64 st] 27))
 have hb1:Below w.heap.size w W1:=baQ e1
 have hmk:=S13.made_bools M (by omega) W1
 obtain ⟨W2,e2⟩:=nmQ (W1.alloc (.cells (Array.replicate M (.bool false)) 4))
 have n2:W2.heap[W1.heap.size]?=some (bO M fun _=>false):=by rw [<-e2,<-bO_made]; exact new_block _ _
 have hb2:Below W1.heap.size W1 W2:=baQ e2
 rw [e2] at hmk
 have c2:=bO_cell n2 hat
 have f2:=foQ n2 at_
 obtain ⟨W3,e3⟩:=nmQ (W2.setCell ⟨W1.heap.size,at_,none⟩ (.bool true))
 have n3:=bO_set n2 hat true
 rw [e3] at n3
 have hb3:Below W1.heap.size W1 W3:=by rw [<-e3]; exact hb2.setCell (Nat.le_refl _) _
 obtain ⟨b0,hb0⟩:=nmQ (W1.heap.size)
 have HST:=hid (show Below w.heap.size w W3/\w.heap.size<=b0/\W3.heap[b0]?=some (bO M (LR.endsE l C (rs.take 0) fun j=>j == at_)) from ⟨hb1.trans (hb3.mono hb1.size),by rw [<-hb0]; exact hb1.size,by
  rw [<-hb0,n3]
  have e:(fun j=>if j=at_ then true else false)=fun j=>j == at_:=by
   funext k
   by_cases h:k=at_ <;> simp [h]
  rw [e]
  rfl⟩)
 rw [hb0] at hmk c2 f2 e3
 clear hC hl hr hrs hlx hrx hN0 hRL hN n2 n3 hb1 hb2 hb3
 go_enter Tryz.func85,Tryz.ntmps85
 go_wp2_with fail
 clear hmk c2 f2 e1 e2 e3 hb0 hw a0 a1
 go_loopw [11,12] (fun t11 t12 wr=>∃ i bR:Nat,i<=RL/\t12=.int .i64 (i:Int)/\t11=.slice (some ⟨bR,0,none⟩) M M/\Hid (Below w.heap.size w wr/\w.heap.size<=bR/\wr.heap[bR]?=some (bO M (LR.endsE l C (rs.take i) fun j=>j == at_)))) (fun _ t12 _=>RL - (RowKit.intOf t12).toNat)
 case atStart=>exact ⟨0,b0,Nat.zero_le _,rfl,rfl,HST⟩
 case round =>
  clear HST
  obtain ⟨i,bR,hi,rfl,rfl,HR⟩:=hrel
  by_cases hlt:i < RL
  ·have j1:(i:Int) < (RL:Int):=by omega
   have j0:(0:Int)<=(i:Int):=by omega
   obtain ⟨R,hR⟩:=nmQ (LR.endsE l C (rs.take i) (fun j=>j == at_))
   rw [hR] at HR
   have HRR:=hid hR
   obtain ⟨s,hs⟩:∃ s,rs[i]?=some s:=⟨_,geQ (by rw [HN.out.2.1]; exact hlt)⟩
   have HS:=hid hs
   obtain ⟨rb,rf,rfl,hrc⟩:=HRX.out (by omega)
   have hrc:w.cell? ⟨rb,rf + i,none⟩=some (.int .i64 s):=by
    have:=hrc i hlt
    rw [gdQ,hs] at this
    exact this
   have HRC:=hid hrc
   have hw:IntKind.i64.wrap ((N:Int) + 1)=(M:Int):=by have:=HN.out.2.2; rw [wrap_small (by omega) (by omega)]; omega
   have hmk:=S13.made_bools M (by omega) wr
   obtain ⟨wa,ea⟩:=nmQ (wr.alloc (.cells (Array.replicate M (.bool false)) 4))
   obtain ⟨bN,hbN⟩:=nmQ (wr.heap.size)
   rw [ea,hbN] at hmk
   have na:wa.heap[bN]?=some (bO M fun _=>false):=by rw [<-ea,<-hbN,<-bO_made]; exact new_block _ _
   have hba:Below wr.heap.size wr wa:=baQ ea
   have hRlt:bR < wr.heap.size:=(ltQ HR.out.2.2)
   have HA:=hid (show Below w.heap.size w wa/\w.heap.size<=bN/\bR < bN/\wa.heap[bR]?=some (bO M R) from ⟨HR.out.1.trans (hba.mono HR.out.1.size),by rw [<-hbN]; exact HR.out.1.size,by omega,(hba.block _ hRlt).trans HR.out.2.2⟩)
   have HI:=hid (show Below bN wa wa/\wa.heap[bN]?=some (bO M (partE l C s R 0)) from ⟨Below.refl _ _,by rw [na]; congr 1; exact bO_congr fun k _=>(part_zero l C s R k).symm⟩)
   clear hs hR hrc na hba hRlt
   go_wp2_with fail
   clear hmk ea hbN HR hw
   go_loopw [14] (fun t14 wr=>∃ k:Nat,k<=M/\t14=.int .i64 (k:Int)/\Hid (Below bN wa wr/\wr.heap[bN]?=some (bO M (partE l C s R k)))) (fun t14 _=>M - (RowKit.intOf t14).toNat)
   case atStart=>exact ⟨0,Nat.zero_le _,rfl,HI⟩
   case round =>
    clear HI
    obtain ⟨k,hk,rfl,HI⟩:=hrel
    by_cases hlk:k < M
    ·have k1:(k:Int)<=(N:Int):=by have:=HN.out.2.2; omega
     have k0:(0:Int)<=(k:Int):=by omega
     have k2:(k:Int) < (M:Int):=by omega
     have HBW:=hid (show Below w.heap.size w wr from HA.out.1.trans (HI.out.1.mono HA.out.2.1))
     have nR:=(HI.out.1.block _ HA.out.2.2.1).trans HA.out.2.2.2
     have cR:=bO_cell nR hlk
     obtain ⟨rk,hrk⟩:=nmQ (R k)
     have HRK:=hid hrk
     rw [hrk] at cR
     clear hrk nR
     cases rk
     ·go_wp2_with fail
      refine ⟨⟨k + 1,by omega,by go_num,hid ⟨HI.out.1,by rw [HI.out.2]; congr 1; exact bO_congr fun e _=>(part_skip HRK.out e).symm⟩⟩,?_⟩
      simp [RowKit.intOf]
      omega
     ·by_cases hs0:0<=s
      ·have g0:decide (0<=s)=true:=decide_eq_true hs0
       have g1:decide (s < 0)=false:=decide_eq_false (by omega)
       have g2:¬ s < 0:=by omega
       have HS0:=hid hs0
       by_cases hkN:k < N
       ·have k3:(k:Int) < (N:Int):=by omega
        obtain ⟨lb,lf,rfl,hlc⟩:=HLX.out (by omega)
        obtain ⟨t,ht⟩:∃ t,l[k]?=some t:=⟨_,geQ (by rw [HN.out.1]; exact hkN)⟩
        have hlc:w.cell? ⟨lb,lf + k,none⟩=some (.int .i64 t):=by
         have:=hlc k hkN
         rw [gdQ,ht] at this
         exact this
        have HLC:=hid hlc
        have Z0:=hid (show ∀ w',Below wr.heap.size wr w'->w'.cell? ⟨rb,rf + i,none⟩=some (.int .i64 s) from fun w' hC=>cell_below (HBW.out.trans (hC.mono HBW.out.size)) HRC.out)
        have Z1:=hid (show ∀ w',Below wr.heap.size wr w'->w'.cell? ⟨lb,lf + k,none⟩=some (.int .i64 t) from fun w' hC=>cell_below (HBW.out.trans (hC.mono HBW.out.size)) HLC.out)
        clear hlc
        by_cases hts:t=s
        ·have HLT:=hid (show l[k]?=some s from hts ▸ ht)
         subst hts
         clear ht
         go_wp2_with fail
         clear cR
         refine wp_region_below (by kernel_rfl) (by kernel_rfl) ?_
         iterate 22
          with_reducible refine BigFrame.wpQuiet_want (by kernel_rfl) (fun K hK=>?_)
          apply Exists.intro
          refine ⟨fun w' hC=>?_,hK _ ?_⟩
          ·have f0':=Z0.out w' hC
           have f1':=Z1.out w' hC
           unfold Oper.quietAt
           go_simp
           first | with_reducible rfl | done
          clear hK K
          try simp only [Act.put,sjA,sj0,sjS]
         refine wpQuiet_nil ?_
         intro w6 hb6
         have HI6:=hid (keepI HI.out hb6)
         have HB6:=hid (HBW.out.trans (hb6.mono HBW.out.size))
         clear hb6 HI HBW
         have hk1:k + 1 < M:=by have:=HN.out.2.2; omega
         have hw5:(k:Int) + 1 < (M:Int):=by omega
         have hw6:(0:Int)<=(k:Int) + 1:=by omega
         have c6:=bO_cell HI6.out.2 hk1
         have f6:=foQ HI6.out.2 (k + 1)
         obtain ⟨v1,e6⟩:=nmQ (w6.setCell ⟨bN,k + 1,none⟩ (.bool true))
         have n6:=bO_set HI6.out.2 hk1 true
         rw [e6] at n6
         have HI7:=hid (show Below bN wa v1/\v1.heap[bN]?=some (bO M (partE l C t R (k + 1))) from ⟨by rw [<-e6]; exact HI6.out.1.setCell (Nat.le_refl _) _,by
          rw [n6]
          congr 1
          refine bO_congr fun e _=>?_
          rw [part_term HS0.out HRK.out e,decide_eq_true HLT.out]⟩)
         clear HI6 HB6 n6
         go_wp2_with fail
         clear c6 f6 e6
         go_loopw [15] (fun t15 wr=>t15=.int .i64 (k:Int)/\Hid (Below bN wa wr/\wr.heap[bN]?=some (bO M (partE l C t R (k + 1))))) (fun _ _=>0)
         case atStart=>exact ⟨rfl,HI7⟩
         case round =>
          clear HI7
          obtain ⟨rfl,HI⟩:=hrel
          have cr:=cell_below (HA.out.1.trans (HI.out.1.mono HA.out.2.1)) HRC.out
          go_wp2_with fail
          refine ⟨⟨k + 1,by omega,by go_num,HI⟩,?_⟩
          simp [RowKit.intOf]
          omega
        ·have HLT:=hid (show ¬ l[k]?=some s from by rw [ht]; intro h; exact hts (Option.some.inj h))
         have z0:(t == s)=false:=by rw [beq_eq_false_iff_ne]; exact hts
         clear ht hts
         go_wp2_with fail
         clear cR
         refine wp_region_below (by kernel_rfl) (by kernel_rfl) ?_
         iterate 22
          with_reducible refine BigFrame.wpQuiet_want (by kernel_rfl) (fun K hK=>?_)
          apply Exists.intro
          refine ⟨fun w' hC=>?_,hK _ ?_⟩
          ·have f0':=Z0.out w' hC
           have f1':=Z1.out w' hC
           unfold Oper.quietAt
           go_simp
           first | with_reducible rfl | done
          clear hK K
          try simp only [Act.put,sjA,sj0,sjS]
         refine wpQuiet_nil ?_
         intro w6 hb6
         have HI6:=hid (keepI HI.out hb6)
         have HB6:=hid (HBW.out.trans (hb6.mono HBW.out.size))
         clear hb6 HI HBW
         have HI7:=hid (show Below bN wa w6/\w6.heap[bN]?=some (bO M (partE l C s R (k + 1))) from ⟨HI6.out.1,by rw [HI6.out.2]; congr 1; exact bO_congr fun e _=>(part_none HS0.out HLT.out e).symm⟩)
         clear HI6 HB6
         go_wp2_with fail
         go_loopw [15] (fun t15 wr=>t15=.int .i64 (k:Int)/\Hid (Below bN wa wr/\wr.heap[bN]?=some (bO M (partE l C s R (k + 1))))) (fun _ _=>0)
         case atStart=>exact ⟨rfl,HI7⟩
         case round =>
          clear HI7
          obtain ⟨rfl,HI⟩:=hrel
          have cr:=cell_below (HA.out.1.trans (HI.out.1.mono HA.out.2.1)) HRC.out
          go_wp2_with fail
          refine ⟨⟨k + 1,by omega,by go_num,HI⟩,?_⟩
          simp [RowKit.intOf]
          omega
       ·have k3:¬ (k:Int) < (N:Int):=by omega
        have HLT:=hid (show ¬ l[k]?=some s from by rw [List.getElem?_eq_none (by rw [HN.out.1]; omega)]; simp)
        have Z0:=hid (show ∀ w',Below wr.heap.size wr w'->w'.cell? ⟨rb,rf + i,none⟩=some (.int .i64 s) from fun w' hC=>cell_below (HBW.out.trans (hC.mono HBW.out.size)) HRC.out)
        go_wp2_with fail
        clear cR
        refine wp_region_below (by kernel_rfl) (by kernel_rfl) ?_
        iterate 22
         first
         | with_reducible refine BigFrame.wpQuiet_skip (by with_unfolding_all rfl) ?_
         | with_reducible refine BigFrame.wpQuiet_want (by kernel_rfl) (fun K hK=>?_)
           apply Exists.intro
           refine ⟨fun w' hC=>?_,hK _ ?_⟩
           ·have f0':=Z0.out w' hC
            unfold Oper.quietAt
            go_simp
            first | with_reducible rfl | done
           clear hK K
         try simp only [Act.put,sjA,sj0,sjS]
        refine wpQuiet_nil ?_
        intro w6 hb6
        have HI6:=hid (keepI HI.out hb6)
        have HB6:=hid (HBW.out.trans (hb6.mono HBW.out.size))
        clear hb6 HI HBW
        have HI7:=hid (show Below bN wa w6/\w6.heap[bN]?=some (bO M (partE l C s R (k + 1))) from ⟨HI6.out.1,by rw [HI6.out.2]; congr 1; exact bO_congr fun e _=>(part_none HS0.out HLT.out e).symm⟩)
        clear HI6 HB6
        go_wp2_with fail
        go_loopw [15] (fun t15 wr=>t15=.int .i64 (k:Int)/\Hid (Below bN wa wr/\wr.heap[bN]?=some (bO M (partE l C s R (k + 1))))) (fun _ _=>0)
        case atStart=>exact ⟨rfl,HI7⟩
        case round =>
         clear HI7
         obtain ⟨rfl,HI⟩:=hrel
         have cr:=cell_below (HA.out.1.trans (HI.out.1.mono HA.out.2.1)) HRC.out
         go_wp2_with fail
         refine ⟨⟨k + 1,by omega,by go_num,HI⟩,?_⟩
         simp [RowKit.intOf]
         omega
      ·have g0:decide (0<=s)=false:=decide_eq_false hs0
       have g2:s < 0:=by omega
       have g1:decide (s < 0)=true:=decide_eq_true g2
       have HS0:=hid hs0
       have Z0:=hid (show ∀ w',Below wr.heap.size wr w'->w'.cell? ⟨rb,rf + i,none⟩=some (.int .i64 s) from fun w' hC=>cell_below (HBW.out.trans (hC.mono HBW.out.size)) HRC.out)
       have HSB:=hid (HRB.out s (List.mem_of_getElem? HS.out))
       obtain ⟨A,hA⟩:=nmQ ((-1 - s).toNat)
       have HAA:=hid hA
       have hAS:A < S:=by have:=HRS.out s (List.mem_of_getElem? HS.out) g2; omega
       obtain ⟨b1,o1,u1,rfl,x1,x2⟩:=HCA.out.at_ hAS
       obtain ⟨co1,cc1,rfl,_⟩:=x2.len
       obtain ⟨b2,o2,u2',rfl,x3,x4⟩:=x2.at_ hlk
       obtain ⟨co2,cc2,rfl,_,x5⟩:=x4
       obtain ⟨b3,o3,rfl,x6⟩:=x5 (by omega)
       have HX:=hid (And.intro x1 (And.intro x3 x6))
       have HAs:=hid (show s=-1 - (A:Int) from by omega)
       clear x1 x2 x3 x5 x6 hA
       go_wp2_with fail
       clear cR
       refine wp_region_below (by kernel_rfl) (by kernel_rfl) ?_
       iterate 22
        first
        | with_reducible refine BigFrame.wpQuiet_skip (by with_unfolding_all rfl) ?_
        | with_reducible refine BigFrame.wpQuiet_want (by kernel_rfl) (fun K hK=>?_)
          apply Exists.intro
          refine ⟨fun w' hC=>?_,hK _ ?_⟩
          ·have f0':=Z0.out w' hC
           unfold Oper.quietAt
           go_simp
           first | with_reducible rfl | done
          clear hK K
        try simp only [Act.put,sjA,sj0,sjS]
       refine wpQuiet_nil ?_
       intro w6 hb6
       have HI6:=hid (keepI HI.out hb6)
       have HB6:=hid (HBW.out.trans (hb6.mono HBW.out.size))
       clear hb6 HI HBW
       go_wp2_with fail
       have HI7:=hid (show Below bN wa w6/\w6.heap[bN]?=some (bO M fun x=>partE l C s R k x || (decide (k<=x) && decide (x < k) && C A k x)) from ⟨HI6.out.1,by
        rw [HI6.out.2]
        congr 1
        refine bO_congr fun x _=>?_
        by_cases h:k<=x
        ·rw [decide_eq_false (show ¬ x < k by omega)]; simp
        ·rw [decide_eq_false h]; simp⟩)
       clear HI6 HB6
       go_loopw [15] (fun t15 wr=>∃ e:Nat,k<=e/\e<=M/\t15=.int .i64 (e:Int)/\Hid (Below bN wa wr/\wr.heap[bN]?=some (bO M (fun x=>partE l C s R k x || (decide (k<=x) && decide (x < e) && C A k x))))) (fun t15 _=>M - (RowKit.intOf t15).toNat)
       case atStart=>exact ⟨k,Nat.le_refl _,hk,rfl,HI7⟩
       case round =>
        clear HI7
        obtain ⟨e,hke,he,rfl,HI⟩:=hrel
        have HBQ:=hid (HA.out.1.trans (HI.out.1.mono HA.out.2.1))
        have cr:=cell_below HBQ.out HRC.out
        by_cases hle:e < M
        ·have y1:(e:Int)<=(N:Int):=by have:=HN.out.2.2; omega
         have y0:(0:Int)<=(e:Int):=by omega
         have y2:(e:Int) < (M:Int):=by omega
         have hw2:IntKind.i64.wrap (-1 - s)=(A:Int):=by have:=HAs.out; have:=HSB.out; rw [wrap_small (by omega) (by omega)]; omega
         have y3:(0:Int)<=(A:Int):=by omega
         have y4:(A:Int) < (S:Int):=by have:=hAS; omega
         have d1:=cell_below HBQ.out HX.out.1
         have d2:=cell_below HBQ.out HX.out.2.1
         have d3:=cell_below HBQ.out (HX.out.2.2 e hle)
         obtain ⟨cv3,hcv3⟩:=nmQ (C A k e)
         have HCV:=hid hcv3
         rw [hcv3] at d3
         have ce0:=bO_cell HI.out.2 hle
         obtain ⟨pe,hpe⟩:=nmQ ((partE l C s R k e || (decide (k<=e) && decide (e < e) && C A k e)))
         have HPE:=hid hpe
         have ce:wr.cell? ⟨bN,e,none⟩=some (.bool pe):=hpe ▸ ce0
         have fe:=foQ HI.out.2 e
         obtain ⟨v1,e6⟩:=nmQ (wr.setCell ⟨bN,e,none⟩ (.bool (pe || cv3)))
         have n6:=bO_set HI.out.2 hle (pe || cv3)
         rw [e6] at n6
         have HI8:=hid (show Below bN wa v1/\v1.heap[bN]?=some (bO M fun x=>partE l C s R k x || (decide (k<=x) && decide (x < e + 1) && C A k x)) from ⟨by rw [<-e6]; exact HI.out.1.setCell (Nat.le_refl _) _,by
          rw [n6]
          congr 1
          refine bO_congr fun x _=>?_
          by_cases hx:x=e
          ·subst hx
           rw [if_pos rfl,<-HPE.out,<-HCV.out,decide_eq_false (Nat.lt_irrefl x),decide_eq_true hke,decide_eq_true (Nat.lt_succ_self x)]
           simp
          ·rw [if_neg hx]
           by_cases h:x < e
           ·rw [decide_eq_true h,decide_eq_true (show x < e + 1 by omega)]
           ·rw [decide_eq_false h,decide_eq_false (show ¬ x < e + 1 by omega)]⟩)
         clear n6 hpe hcv3 ce0
         cases pe
         ·rw [Bool.false_or] at e6
          go_wp2_with fail
          refine ⟨⟨e + 1,by omega,by omega,by go_num,HI8⟩,?_⟩
          simp [RowKit.intOf]
          omega
         ·rw [Bool.true_or] at e6
          go_wp2_with fail
          refine ⟨⟨e + 1,by omega,by omega,by go_num,HI8⟩,?_⟩
          simp [RowKit.intOf]
          omega
        ·have y1:¬ (e:Int)<=(N:Int):=by have:=HN.out.2.2; omega
         have HI8:=hid (show Below bN wa wr/\wr.heap[bN]?=some (bO M (partE l C s R (k + 1))) from ⟨HI.out.1,by
          rw [HI.out.2]
          congr 1
          refine bO_congr fun x hx=>?_
          rw [part_sort (show ¬ 0<=s by have:=HS0.out; omega) HRK.out x,HAA.out,decide_eq_true (show x < e by omega),Bool.and_true]⟩)
         go_wp2_with fail
         refine ⟨⟨k + 1,by omega,by go_num,HI8⟩,?_⟩
         simp [RowKit.intOf]
         omega
    ·have k1:¬ (k:Int)<=(N:Int):=by have:=HN.out.2.2; omega
     have HI2:=hid (show Below w.heap.size w wr/\w.heap.size<=bN/\wr.heap[bN]?=some (bO M (LR.endsE l C (rs.take (i + 1)) fun j=>j == at_)) from ⟨HA.out.1.trans (HI.out.1.mono HA.out.2.1),HA.out.2.1,by
      obtain rfl:k=M:=by omega
      rw [HI.out.2]
      congr 1
      refine bO_congr fun e he=>?_
      rw [part_all he (by have:=HN.out; omega),List.take_add_one,HS.out,Option.toList_some,LR.endsE_snoc,HRR.out]⟩)
     go_wp2_with fail
     refine ⟨⟨i + 1,bN,by omega,by go_num,rfl,HI2⟩,?_⟩
     simp [RowKit.intOf]
     omega
  ·have j1:¬ (i:Int) < (RL:Int):=by omega
   have HF:=hid (show wr.heap[bR]?=some (bO M (LR.endsE l C rs fun j=>j == at_)) from by
    have h:=HR.out.2.2
    rw [List.take_of_length_le (by rw [HN.out.2.1]; omega)] at h
    exact h)
   go_wp2_with fail
   go_ret
   exact ⟨bR,rfl,HR.out.2.1,HF.out,HR.out.1⟩
end Go.Proofs.YticmnfmijdgmbaaGreatDoor

namespace Go.Proofs.YticmnfmijdgmbaaGreatDoor
open Go Go.RowKit Go.Lib
theorem bO_only {w:World} {b n:Nat} {P:Nat->Bool} (h:w.heap[b]?=some (bO n P)) {j:Nat} {u:Value} (hu:w.cell? ⟨b,j,none⟩=some u):∃ x,u=.bool x:=by
 rw [coQ h j,List.getElem?_toArray,List.getElem?_map] at hu
 cases hx:(List.range n)[j]? with
 | none=>rw [hx] at hu; cases hu
 | some k=>rw [hx] at hu; exact ⟨_,(Option.some.inj hu).symm⟩
theorem slice_stays {w:World} {b n k:Nat} {P:Nat->Bool} (h:w.heap[b]?=some (bO n P)) (v:Value) {b' j:Nat} {o:Option Addr} {len c:Nat} (hu:w.cell? ⟨b',j,none⟩=some (.slice o len c)):(w.setCell ⟨b,k,none⟩ v).cell? ⟨b',j,none⟩=some (.slice o len c):=by
 have hne:b' ≠ b:=fun e=>by
  subst e
  obtain ⟨x,hx⟩:=bO_only h hu
  cases hx
 rw [World.cell?_setCell_other w _ _ v (by simp only [ne_eq,Addr.mk.injEq]; exact fun h=>hne h.1.symm)]
 exact hu
structure LeafSt (w:World) (cv:Value) (S M:Nat) (leaf:Nat->Nat->Nat) (C:Nat->Nat->Nat->Bool):Prop where
 rows:RowsAt w cv S fun A u=>RowsAt w u M fun m u'=>u'=.slice (some ⟨leaf A m,0,none⟩) M M
 at_:∀ A m,A < S->m < M->w.heap[leaf A m]?=some (bO M (C A m))
 one:∀ A m A' m',A < S->m < M->A' < S->m' < M->leaf A m=leaf A' m'->A=A'/\m=m'
theorem LeafSt.can {w:World} {cv:Value} {S M:Nat} {leaf:Nat->Nat->Nat} {C:Nat->Nat->Nat->Bool} (h:LeafSt w cv S M leaf C) (hM:M<=1000):CanAt w cv S M C:=by
 obtain ⟨o,c,rfl,hl,hx⟩:=h.rows
 refine ⟨o,c,rfl,hl,fun h0=>?_⟩
 obtain ⟨b,off,rfl,hq⟩:=hx h0
 refine ⟨b,off,rfl,fun A hA=>?_⟩
 obtain ⟨u,h1,o2,c2,rfl,hl2,hx2⟩:=hq A hA
 refine ⟨_,h1,o2,c2,rfl,hl2,fun h2=>?_⟩
 obtain ⟨b2,off2,rfl,hq2⟩:=hx2 h2
 refine ⟨b2,off2,rfl,fun m hm=>?_⟩
 obtain ⟨u2,h3,rfl⟩:=hq2 m hm
 refine ⟨_,h3,some ⟨leaf A m,0,none⟩,M,rfl,by omega,fun _=>⟨leaf A m,0,rfl,fun k hk=>?_⟩⟩
 show w.cell? ⟨leaf A m,0 + k,none⟩=some (.bool (C A m k))
 rw [Nat.zero_add]
 exact bO_cell (h.at_ A m hA hm) hk
theorem LeafSt.set {w:World} {cv:Value} {S M:Nat} {leaf:Nat->Nat->Nat} {C:Nat->Nat->Nat->Bool} (h:LeafSt w cv S M leaf C) {A m k:Nat} (hA:A < S) (hm:m < M) (hk:k < M) (v:Bool) :
  LeafSt (w.setCell ⟨leaf A m,k,none⟩ (.bool v)) cv S M leaf (fun A' m' k'=>if A'=A/\m'=m/\k'=k then v else C A' m' k'):=by
 have hb:=h.at_ A m hA hm
 refine ⟨?_,fun A' m' hA' hm'=>?_,h.one⟩
 ·obtain ⟨o,c,rfl,hl,hx⟩:=h.rows
  refine ⟨o,c,rfl,hl,fun h0=>?_⟩
  obtain ⟨b,off,rfl,hq⟩:=hx h0
  refine ⟨b,off,rfl,fun A' hA'=>?_⟩
  obtain ⟨u,h1,o2,c2,rfl,hl2,hx2⟩:=hq A' hA'
  refine ⟨_,slice_stays hb _ h1,o2,c2,rfl,hl2,fun h2=>?_⟩
  obtain ⟨b2,off2,rfl,hq2⟩:=hx2 h2
  refine ⟨b2,off2,rfl,fun m' hm'=>?_⟩
  obtain ⟨u2,h3,rfl⟩:=hq2 m' hm'
  exact ⟨_,slice_stays hb _ h3,rfl⟩
 ·by_cases he:leaf A' m'=leaf A m
  ·obtain ⟨rfl,rfl⟩:=h.one _ _ _ _ hA' hm' hA hm he
   rw [bO_set hb hk v]
   congr 1
   refine bO_congr fun j _=>?_
   by_cases hj:j=k
   ·rw [if_pos hj,if_pos ⟨rfl,rfl,hj⟩]
   ·rw [if_neg hj,if_neg (fun h=>hj h.2.2)]
  ·rw [show (w.setCell ⟨leaf A m,k,none⟩ (.bool v)).heap[leaf A' m']?=w.heap[leaf A' m']? from by
    have h1:=S13.heap_set (w:=w) (v:=.bool v) (p:=⟨leaf A m,k,none⟩) (h.at_ A' m' hA' hm') he
    rw [h1,h.at_ A' m' hA' hm']]
   rw [h.at_ A' m' hA' hm']
   congr 1
   refine bO_congr fun j _=>?_
   rw [if_neg (fun h=>he (by rw [h.1,h.2.1]))]
theorem LeafSt.below {w w':World} {cv:Value} {S M:Nat} {leaf:Nat->Nat->Nat} {C:Nat->Nat->Nat->Bool} (h:LeafSt w cv S M leaf C) (hb:Below w.heap.size w w'):LeafSt w' cv S M leaf C:=
 ⟨h.rows.below hb fun _ _ hu=>hu.below hb fun _ _ e=>e,fun A m hA hm=>(hb.block _ (Array.getElem?_eq_some_iff.1 (h.at_ A m hA hm)).1).trans (h.at_ A m hA hm),h.one⟩
end Go.Proofs.YticmnfmijdgmbaaGreatDoor

namespace Go.Proofs.YticmnfmijdgmbaaGreatDoor
theorem countP_le {α:Type} {p q:α->Bool} : ∀ (l:List α),(∀ x ∈ l,p x=true->q x=true)->l.countP p<=l.countP q
 | [],_=>Nat.le_refl _
 | x :: l,h=>by
  have ih:=countP_le l fun y hy=>h y (List.mem_cons_of_mem _ hy)
  rw [List.countP_cons,List.countP_cons]
  have:=h x List.mem_cons_self
  by_cases hp:p x=true
  ·rw [if_pos hp,if_pos (this hp)]; omega
  ·rw [if_neg hp]; omega
theorem countP_lt {α:Type} {p q:α->Bool} : ∀ (l:List α),(∀ x ∈ l,p x=true->q x=true)->(∃ x ∈ l,q x=true/\p x=false)->l.countP p < l.countP q
 | [],_,⟨x,hx,_⟩=>by cases hx
 | x :: l,h,⟨y,hy,h1,h2⟩=>by
  have hl:∀ z ∈ l,p z=true->q z=true:=fun z hz=>h z (List.mem_cons_of_mem _ hz)
  rw [List.countP_cons,List.countP_cons]
  rcases List.mem_cons.1 hy with rfl | hy
  ·have:=countP_le l hl
   rw [if_neg (by rw [h2]; decide),if_pos h1]
   omega
  ·have ih:=countP_lt l hl ⟨y,hy,h1,h2⟩
   have:=h x List.mem_cons_self
   by_cases hp:p x=true
   ·rw [if_pos hp,if_pos (this hp)]; omega
   ·rw [if_neg hp]; omega
def cntF (S M:Nat) (C:Nat->Nat->Nat->Bool):Nat:=(List.range (S * M * M)).countP fun x=>!C (x / M / M) (x / M % M) (x % M)
theorem cntF_set {S M:Nat} {C:Nat->Nat->Nat->Bool} {A m k:Nat} (hA:A < S) (hm:m < M) (hk:k < M) (hC:C A m k=false):cntF S M (fun A' m' k'=>if A'=A/\m'=m/\k'=k then true else C A' m' k') < cntF S M C:=by
 have h0:0 < M:=by omega
 have e1:((A * M + m) * M + k) / M=A * M + m:=by rw [Nat.add_comm,Nat.add_mul_div_right _ _ h0,Nat.div_eq_of_lt hk,Nat.zero_add]
 have e2:((A * M + m) * M + k) % M=k:=by rw [Nat.add_comm,Nat.add_mul_mod_self_right,Nat.mod_eq_of_lt hk]
 have e3:(A * M + m) / M=A:=by rw [Nat.add_comm,Nat.add_mul_div_right _ _ h0,Nat.div_eq_of_lt hm,Nat.zero_add]
 have e4:(A * M + m) % M=m:=by rw [Nat.add_comm,Nat.add_mul_mod_self_right,Nat.mod_eq_of_lt hm]
 unfold cntF
 refine countP_lt _ (fun x _ hx=>?_) ⟨(A * M + m) * M + k,?_,?_,?_⟩
 ·replace hx:(!(if x / M / M=A/\x / M % M=m/\x % M=k then true else C (x / M / M) (x / M % M) (x % M)))=true:=hx
  by_cases h:x / M / M=A/\x / M % M=m/\x % M=k
  ·simp [h] at hx
  ·rw [if_neg h] at hx; exact hx
 ·rw [List.mem_range]
  have h1:A * M + m < S * M:=by
   have:(A + 1) * M<=S * M:=Nat.mul_le_mul_right _ hA
   rw [Nat.add_mul,Nat.one_mul] at this
   omega
  have:(A * M + m + 1) * M<=S * M * M:=Nat.mul_le_mul_right _ h1
  rw [Nat.add_mul,Nat.one_mul] at this
  omega
 ·rw [e1,e2,e3,e4,hC]; rfl
 ·rw [e1,e2,e3,e4]
  show (!(if A=A/\m=m/\k=k then true else C A m k))=false
  rw [if_pos ⟨rfl,rfl,rfl⟩]
  rfl
end Go.Proofs.YticmnfmijdgmbaaGreatDoor
