/- deeds: what can be done in a state, of a column. -/
import Derived.Test.YticmnfmijdgmbaaGreatDoorZc
set_option linter.unusedVariables false
set_option linter.unusedSimpArgs false
namespace Go.Proofs.YticmnfmijdgmbaaGreatDoor
open Go Go.RowKit Go.Lib
open X14 (It)
open S13 (u64 hasN top)
open S16
theorem one_two {a b:Value} (ha:a.oneCell'=true) (hb:b.oneCell'=true) (q:Value) (hq:q ∈ [a,b]):q.oneCell'=true:=by
 rcases List.mem_cons.1 hq with rfl | hq
 ·exact ha
 ·rw [List.mem_singleton.1 hq]; exact hb
theorem info91:(Tryz.prog.info? 91).map (fun i=>(i.zero,i.size,i.bytes))=some (some (.agg #[.int .i64 0,.int .i64 0]),2,16):=by kernel_rfl
def DeedsP (G:GD) (nx:List (List Int)) (at_:Int) (k:Nat) (ps:List (Int × Nat)) (w:World) (e:Ending) (w':World):Prop:=
 ∃ v,e=.returned v/\Below w.heap.size w w'/\ownsT w' w.heap.size 2 v (deedsX G nx at_ k ps).length (dC (deedsX G nx at_ k ps))
set_option maxRecDepth 100000 in
set_option maxHeartbeats 8000000 in
theorem deeds_any {G:GD} {gv av lv:Value} {w:World} {ker:List (List It)} {nx:List (List Int)} {ps:List (Int × Nat)} (h:Gram w gv G) (ha:AutAt w av ker nx) (hok:NxOk G nx) (at_:Int) (k:Nat) (hk:k<=63) (hp:PassAt w lv ps) (hpl:ps.length<=1000000) (hu:∀ p ∈ ps,p.2 < 18446744073709551616) :
  Calls Tryz.prog 76 #[gv,av,.int .i64 at_,.int .i64 (k:Int),lv] w (DeedsP G nx at_ k ps w):=by
 have HGr:=hid h
 have HA:=hid ha
 have HOK:=hid hok
 have HU:=hid (show ∀ i,(ps.getD i (0,0)).2 < 18446744073709551616 from fun i=>by
  rw [gdQ]
  cases hq:ps[i]? with
  | none=>decide
  | some q=>exact hu q (List.mem_of_getElem? hq))
 obtain ⟨po,pc,rfl,hpn,hpx⟩:=hp
 obtain ⟨tv,ov,sv,pv,tf,rv,h⟩:=h
 have hgv:=h.eq
 subst hgv
 obtain ⟨to_,tc,rfl,htn,_⟩:=h.terms
 obtain ⟨kv,nv,rfl,_,_⟩:=ha
 obtain ⟨T,hT⟩:=nmQ (G.terms.length)
 obtain ⟨N,hN⟩:=nmQ (ps.length)
 have HT:=hid hT
 have HN:=hid hN
 rw [hT] at HGr ⊢
 rw [hN] at hpx hpl ⊢
 have HPX:=hid hpx
 obtain ⟨W1,e1⟩:=nmQ (w.alloc (.cells #[.slice to_ T tc,ov,sv,pv,.int .i64 G.start] 27))
 have n1:W1.heap[w.heap.size]?=some (.cells #[.slice to_ T tc,ov,sv,pv,.int .i64 G.start] 27 (0,0)):=nbQ e1
 obtain ⟨W2,e2⟩:=nmQ (W1.alloc (.cells #[kv,nv] 55))
 have n2:W2.heap[W1.heap.size]?=some (.cells #[kv,nv] 55 (0,0)):=nbQ e2
 have h2:Below W1.heap.size W1 W2:=baQ e2
 have f1:=foot_add1 (l:=[]) (Foot.empty w w.heap.size (Nat.le_refl _)) e1 n1
 have f2:=foot_add1 f1 e2 n2
 have c0:W2.cell? ⟨w.heap.size,0,none⟩=some (.slice to_ T tc):=cell_below h2 (coQ n1 0)
 have c1:W2.cell? ⟨w.heap.size,1,none⟩=some ov:=cell_below h2 (coQ n1 1)
 have c2:W2.cell? ⟨w.heap.size,2,none⟩=some sv:=cell_below h2 (coQ n1 2)
 have c3:W2.cell? ⟨w.heap.size,3,none⟩=some pv:=cell_below h2 (coQ n1 3)
 have c4:W2.cell? ⟨w.heap.size,4,none⟩=some (.int .i64 G.start):=cell_below h2 (coQ n1 4)
 have d0:W2.cell? ⟨W1.heap.size,0,none⟩=some kv:=coQ n2 0
 have d1:W2.cell? ⟨W1.heap.size,1,none⟩=some nv:=coQ n2 1
 have KG:=hid (Go_any (HGr.out.below f2.bel) (HA.out.below f2.bel) HOK.out at_ (k:Int) (by omega) (by omega))
 have HF:=hid (show Foot w.heap.size w W2 [blkI w.heap.size (.cells #[.slice to_ T tc,ov,sv,pv,.int .i64 G.start] 27 (0,0)),blkI W1.heap.size (.cells #[kv,nv] 55 (0,0)),queI w.heap.size 2 (.slice none 0 0) (([]:List It)).length (dC (([]:List It)))] from foot_newrow2 f2)
 clear h f1 f2 n1 n2 h2 hT hN hpx hok hu
 by_cases hkT:k=T
 ·subst hkT
  have j0:((k:Int) == (k:Int))=true:=beq_self_eq_true _
  have HE:=hid (show deedsX G nx at_ k ps=dX [] 63 ps N from by unfold deedsX goOf dX; rw [HT.out,if_pos rfl,if_pos rfl,<-HN.out,List.take_length])
  obtain ⟨l0,hl0⟩:∃ l0:List It,[]=l0:=⟨_,rfl⟩
  have HL:=hid (show l0.length<=1 from by rw [<-hl0]; decide)
  rw [hl0] at HE
  have HF:Hid (Foot w.heap.size w W2 [blkI w.heap.size (.cells #[.slice to_ k tc,ov,sv,pv,.int .i64 G.start] 27 (0,0)),blkI W1.heap.size (.cells #[kv,nv] 55 (0,0)),queI w.heap.size 2 (.slice none 0 0) (l0).length (dC (l0))]):=hid (by rw [<-hl0]; exact HF.out)
  go_enter Tryz.func76,Tryz.ntmps76
  go_wp2_with fail
  clear KG c0 c1 c2 c3 c4 d0 d1 e1 e2
  go_loopw [11,37] (fun t11 t37 wr=>∃ (i:Nat) (v:Value),i<=N/\v=t11/\t37=.int .i64 (i:Int)/\Hid (Foot w.heap.size w wr [blkI w.heap.size (.cells #[.slice to_ k tc,ov,sv,pv,.int .i64 G.start] 27 (0,0)),blkI W1.heap.size (.cells #[kv,nv] 55 (0,0)),queI w.heap.size 2 v (dX l0 63 ps i).length (dC (dX l0 63 ps i))])) (fun _ t37 _=>N - (RowKit.intOf t37).toNat)
  case atStart=>exact ⟨0,_,Nat.zero_le _,rfl,rfl,hid (by rw [dX_zero]; exact HF.out)⟩
  case round =>
   clear HF
   obtain ⟨i,v,hiN,rfl,rfl,HF⟩:=hrel
   by_cases hlt:i < N
   ·have j1:(i:Int) < (N:Int):=by omega
    have j0:(0:Int)<=(i:Int):=by omega
    obtain ⟨pb,pf,rfl,hi1⟩:=HPX.out (by omega)
    obtain ⟨hx0,hx1⟩:=hi1 i hlt
    obtain ⟨x,hx⟩:=nmQ (ps.getD i (0,0))
    have hxu:=HU.out i
    rw [hx] at hx0 hx1 hxu
    have HS:=hid (show dX l0 63 ps (i + 1)=dX l0 63 ps i ++ one1 63 x from by rw [<-hx]; exact dX_succ (by rw [HN.out]; exact hlt))
    have hdl:=dX_len l0 63 ps i
    have HDL:=hid (show (dX l0 63 ps i).length<=1000000000000 from by have:=HL.out; have:=HN.out; omega)
    have r0:=cell_below HF.out.bel hx0
    have r1:=cell_below HF.out.bel hx1
    obtain ⟨wa,ea⟩:=nmQ (wr.alloc (.cells #[.int .i64 0,.int .u64 0] 188))
    have na:wa.heap[wr.heap.size]?=some (.cells #[.int .i64 0,.int .u64 0] 188 (0,0)):=nbQ ea
    have hfa:=foot_add1 HF.out ea na
    have vn0:wa.heap[wr.heap.size]?=some (.cells #[.int .i64 0,.int .u64 0] 188 (0,0)):=na
    have vc0:wa.cell? ⟨wr.heap.size,0,none⟩=some (.int .i64 0):=coQ vn0 0
    have vf0:=foQ vn0 0
    obtain ⟨u1,ve0⟩:=nmQ (wa.setCell ⟨wr.heap.size,0,none⟩ (.int .i64 x.1))
    have vn1:u1.heap[wr.heap.size]?=some (.cells #[.int .i64 x.1,.int .u64 0] 188 (0,0)):=hsQ ve0 vn0
    have vc1:u1.cell? ⟨wr.heap.size,1,none⟩=some (.int .u64 0):=coQ vn1 1
    have vf1:=foQ vn1 1
    obtain ⟨u2,ve1⟩:=nmQ (u1.setCell ⟨wr.heap.size,1,none⟩ (u64 x.2))
    have vn2:u2.heap[wr.heap.size]?=some (.cells #[.int .i64 x.1,u64 x.2] 188 (0,0)):=hsQ ve1 vn1
    have HFu:=hid (show Foot w.heap.size w u2 ([blkI w.heap.size (.cells #[.slice to_ k tc,ov,sv,pv,.int .i64 G.start] 27 (0,0)),blkI W1.heap.size (.cells #[kv,nv] 55 (0,0)),queI w.heap.size 2 v (dX l0 63 ps i).length (dC (dX l0 63 ps i))] ++ [blkI wr.heap.size (.cells #[.int .i64 x.1,u64 x.2] 188 (0,0))]) from by
     have h1:=foot_set (k:=0) (i:=0) (v:=.int .i64 x.1) hfa rfl
     rw [ve0] at h1
     have h2:=foot_set (m:=[blkI wr.heap.size (.cells #[.int .i64 x.1,.int .u64 0] 188 (0,0))]) (k:=0) (i:=1) (v:=u64 x.2) h1 rfl
     rw [ve1] at h2
     exact h2)
    have HFd:=hid (foot_drops HFu.out)
    have q0:u2.cell? ⟨wr.heap.size,0,none⟩=some (.int .i64 x.1):=coQ vn2 0
    have q1:u2.cell? ⟨wr.heap.size,1,none⟩=some (u64 x.2):=coQ vn2 1
    obtain ⟨hb,hh⟩:=nmQ (hasN x.2 63)
    have KH:=hid (S13.Has_any x.2 63 hxu u2)
    rw [hh] at KH
    have HH:=hid hh
    clear hx hx0 hx1 hi1 hfa na vn0 vn1 vn2 hh hxu hdl
    go_wp2_with fail
    refine KH.out.mono ?_
    rintro e w' ⟨rfl,rfl⟩
    clear vc0 vf0 vc1 vf1 ve0 ve1 ea r0 r1 KH
    cases hb with
    | false =>
     have HF9:=hid (show Foot w.heap.size w u2 [blkI w.heap.size (.cells #[.slice to_ k tc,ov,sv,pv,.int .i64 G.start] 27 (0,0)),blkI W1.heap.size (.cells #[kv,nv] 55 (0,0)),queI w.heap.size 2 v (dX l0 63 ps (i + 1)).length (dC (dX l0 63 ps (i + 1)))] from by
      rw [HS.out,one1,HH.out,if_neg Bool.false_ne_true,List.append_nil]
      exact HFd.out)
     go_wp2_with fail
     refine ⟨⟨i + 1,_,by omega,rfl,rfl,HF9⟩,?_⟩
     show N - ((i:Int) + 1).toNat < N - ((i:Int)).toNat
     omega
    | true =>
     obtain ⟨vo,vc,rfl⟩:=(show ownsT u2 w.heap.size 2 v (dX l0 63 ps i).length _ from HFd.out.ok 2 _ rfl).shape
     by_cases hneg:x.1 < 0
     ·have j2:decide (x.1 < 0)=true:=decide_eq_true hneg
      have HO:=hid (show one1 63 x=[(3,0)] from by rw [one1,HH.out,if_pos rfl,if_pos hneg])
      obtain ⟨wq,eq⟩:=nmQ (u2.alloc (.cells #[.int .i64 3,.int .i64 0] 91))
      have nq:wq.heap[u2.heap.size]?=some (.cells #[.int .i64 3,.int .i64 0] 91 (0,0)):=nbQ eq
      have HFq:=hid (HFd.out.below (show Below u2.heap.size u2 wq by exact baQ eq))
      have HCQ:=hid (show ∀ i u,[(.int .i64 3:Value),.int .i64 0][i]?=some u->wq.cell? ⟨u2.heap.size,i,none⟩=some u from fun i u hi=>by
       rw [coQ nq,<-hi,<-List.getElem?_toArray])
      have HOQ:=hid (show ∀ q ∈ [(.int .i64 3:Value),.int .i64 0],q.oneCell'=true from fun q hq=>one_two rfl rfl q hq)
      have HBq:=hid (show w.heap.size<=wq.heap.size from Nat.le_trans HFq.out.le HFq.out.bel.size)
      have HOW:=hid (show ownsT wq w.heap.size 2 (.slice vo (dX l0 63 ps i).length vc) (dX l0 63 ps i).length (dC (dX l0 63 ps i)) from HFq.out.ok 2 _ rfl)
      clear nq
      go_wp2_with (refine wpList_push_T rfl (.tmp 57) (.tmp 59) 87 91 rfl (.agg #[.int .i64 0,.int .i64 0]) 2 16 Tryz.underlying87 info91 rfl (by decide) (.slice vo (dX l0 63 ps i).length vc) (dX l0 63 ps i).length (dC (dX l0 63 ps i)) rfl HOW.out u2.heap.size rfl [.int .i64 3,.int .i64 0] rfl HCQ.out HOQ.out HDL.out HBq.out ?_)
      intro ao2 c8 w8 hown hg8 hat
      have h8:=HFq.out.push_que 2 rfl hown hg8 hat
      have e8:(dX l0 63 ps i).length + 1=(dX l0 63 ps (i + 1)).length:=by rw [HS.out,HO.out,List.length_append]; rfl
      have e9:dC (dX l0 63 ps i) ++ [.int .i64 3,.int .i64 0]=dC (dX l0 63 ps (i + 1)):=by rw [HS.out,HO.out,dC_append]; rfl
      rw [e8,e9] at h8
      rw [e8]
      have HF8:=hid h8
      clear h8 hown hg8 hat e8 e9 eq
      go_wp2_with fail
      refine ⟨⟨i + 1,_,by omega,rfl,rfl,HF8⟩,?_⟩
      show N - ((i:Int) + 1).toNat < N - ((i:Int)).toNat
      omega
     ·have j2:decide (x.1 < 0)=false:=decide_eq_false hneg
      have HO:=hid (show one1 63 x=[(2,x.1)] from by rw [one1,HH.out,if_pos rfl,if_neg hneg])
      obtain ⟨wq,eq⟩:=nmQ (u2.alloc (.cells #[.int .i64 2,.int .i64 x.1] 91))
      have nq:wq.heap[u2.heap.size]?=some (.cells #[.int .i64 2,.int .i64 x.1] 91 (0,0)):=nbQ eq
      have HFq:=hid (HFd.out.below (show Below u2.heap.size u2 wq by exact baQ eq))
      have HCQ:=hid (show ∀ i u,[(.int .i64 2:Value),.int .i64 x.1][i]?=some u->wq.cell? ⟨u2.heap.size,i,none⟩=some u from fun i u hi=>by
       rw [coQ nq,<-hi,<-List.getElem?_toArray])
      have HOQ:=hid (show ∀ q ∈ [(.int .i64 2:Value),.int .i64 x.1],q.oneCell'=true from fun q hq=>one_two rfl rfl q hq)
      have HBq:=hid (show w.heap.size<=wq.heap.size from Nat.le_trans HFq.out.le HFq.out.bel.size)
      have HOW:=hid (show ownsT wq w.heap.size 2 (.slice vo (dX l0 63 ps i).length vc) (dX l0 63 ps i).length (dC (dX l0 63 ps i)) from HFq.out.ok 2 _ rfl)
      clear nq
      go_wp2_with (refine wpList_push_T rfl (.tmp 41) (.tmp 45) 87 91 rfl (.agg #[.int .i64 0,.int .i64 0]) 2 16 Tryz.underlying87 info91 rfl (by decide) (.slice vo (dX l0 63 ps i).length vc) (dX l0 63 ps i).length (dC (dX l0 63 ps i)) rfl HOW.out u2.heap.size rfl [.int .i64 2,.int .i64 x.1] rfl HCQ.out HOQ.out HDL.out HBq.out ?_)
      intro ao2 c8 w8 hown hg8 hat
      have h8:=HFq.out.push_que 2 rfl hown hg8 hat
      have e8:(dX l0 63 ps i).length + 1=(dX l0 63 ps (i + 1)).length:=by rw [HS.out,HO.out,List.length_append]; rfl
      have e9:dC (dX l0 63 ps i) ++ [.int .i64 2,.int .i64 x.1]=dC (dX l0 63 ps (i + 1)):=by rw [HS.out,HO.out,dC_append]; rfl
      rw [e8,e9] at h8
      rw [e8]
      have HF8:=hid h8
      clear h8 hown hg8 hat e8 e9 eq
      go_wp2_with fail
      refine ⟨⟨i + 1,_,by omega,rfl,rfl,HF8⟩,?_⟩
      show N - ((i:Int) + 1).toNat < N - ((i:Int)).toNat
      omega
   ·have j1:¬ (i:Int) < (N:Int):=by omega
    obtain rfl:i=N:=by omega
    have HOW:=hid (show ownsT wr w.heap.size 2 _ _ _ from HF.out.ok 2 _ rfl)
    have HBE:=hid HF.out.bel
    clear HF
    go_wp2_with fail
    go_ret
    exact ⟨_,rfl,HBE.out,by rw [HE.out]; exact HOW.out⟩
 ·have j0:((k:Int) == (T:Int))=false:=beq_eq_false_iff_ne.2 (by omega)
  obtain ⟨g,hg⟩:=nmQ (goX G nx at_ (k:Int))
  rw [hg] at KG
  go_enter Tryz.func76,Tryz.ntmps76
  go_wp2_with fail
  refine KG.out.mono ?_
  rintro e w3 ⟨rfl,hb3⟩
  have HF:=hid (HF.out.below hb3)
  clear KG c0 c1 c2 c3 c4 d0 d1 e1 e2 hb3
  by_cases hg0:0<=g
  ·have j1:decide (0<=g)=true:=decide_eq_true hg0
   have HE:=hid (show deedsX G nx at_ k ps=dX [(1,g)] (k:Int) ps N from by unfold deedsX goOf dX; rw [HT.out,if_neg hkT,if_neg hkT,hg,if_pos hg0,<-HN.out,List.take_length])
   obtain ⟨wq,eq⟩:=nmQ (w3.alloc (.cells #[.int .i64 1,.int .i64 g] 91))
   have nq:wq.heap[w3.heap.size]?=some (.cells #[.int .i64 1,.int .i64 g] 91 (0,0)):=nbQ eq
   have HFq:=hid (HF.out.below (show Below w3.heap.size w3 wq by exact baQ eq))
   have HCQ:=hid (show ∀ i u,[Value.int .i64 1,.int .i64 g][i]?=some u->wq.cell? ⟨w3.heap.size,i,none⟩=some u from fun i u hi=>by
    rw [coQ nq,<-hi,<-List.getElem?_toArray])
   have HOQ:=hid (show ∀ q ∈ [Value.int .i64 1,.int .i64 g],q.oneCell'=true from fun q hq=>one_two rfl rfl q hq)
   have HBq:=hid (show w.heap.size<=wq.heap.size from Nat.le_trans HFq.out.le HFq.out.bel.size)
   clear nq HF
   go_wp2_with (refine wpList_push_T rfl (.tmp 24) (.tmp 27) 87 91 rfl (.agg #[.int .i64 0,.int .i64 0]) 2 16 Tryz.underlying87 info91 rfl (by decide) (.slice none 0 0) 0 [] rfl (ownsT.nil _ _ _) w3.heap.size rfl [.int .i64 1,.int .i64 g] rfl HCQ.out HOQ.out (by decide) HBq.out ?_)
   intro ao2 c8 w8 hown hg8 hat
   have h8:=HFq.out.push_que 2 rfl hown hg8 hat
   obtain ⟨l0,hl0⟩:∃ l0:List It,[(1,g)]=l0:=⟨_,rfl⟩
   have HL:=hid (show l0.length<=1 from by rw [<-hl0]; exact Nat.le_refl _)
   have HF:Hid (Foot w.heap.size w w8 [blkI w.heap.size (.cells #[.slice to_ T tc,ov,sv,pv,.int .i64 G.start] 27 (0,0)),blkI W1.heap.size (.cells #[kv,nv] 55 (0,0)),queI w.heap.size 2 (.slice ao2 (0 + 1) c8) (l0).length (dC (l0))]):=hid (by rw [<-hl0]; exact h8)
   rw [hl0] at HE
   clear h8 hown hg8 hat eq HFq HCQ HBq
   obtain ⟨z,hz⟩:∃ z:Int,(k:Int)=z:=⟨_,rfl⟩
   rw [hz] at HE ⊢
   go_wp2_with fail
   go_loopw [11,37] (fun t11 t37 wr=>∃ (i:Nat) (v:Value),i<=N/\v=t11/\t37=.int .i64 (i:Int)/\Hid (Foot w.heap.size w wr [blkI w.heap.size (.cells #[.slice to_ T tc,ov,sv,pv,.int .i64 G.start] 27 (0,0)),blkI W1.heap.size (.cells #[kv,nv] 55 (0,0)),queI w.heap.size 2 v (dX l0 z ps i).length (dC (dX l0 z ps i))])) (fun _ t37 _=>N - (RowKit.intOf t37).toNat)
   case atStart=>exact ⟨0,_,Nat.zero_le _,rfl,rfl,hid (by rw [dX_zero]; exact HF.out)⟩
   case round =>
    clear HF
    obtain ⟨i,v,hiN,rfl,rfl,HF⟩:=hrel
    by_cases hlt:i < N
    ·have j1:(i:Int) < (N:Int):=by omega
     have j0:(0:Int)<=(i:Int):=by omega
     obtain ⟨pb,pf,rfl,hi1⟩:=HPX.out (by omega)
     obtain ⟨hx0,hx1⟩:=hi1 i hlt
     obtain ⟨x,hx⟩:=nmQ (ps.getD i (0,0))
     have hxu:=HU.out i
     rw [hx] at hx0 hx1 hxu
     have HS:=hid (show dX l0 z ps (i + 1)=dX l0 z ps i ++ one1 z x from by rw [<-hx]; exact dX_succ (by rw [HN.out]; exact hlt))
     have hdl:=dX_len l0 z ps i
     have HDL:=hid (show (dX l0 z ps i).length<=1000000000000 from by have:=HL.out; have:=HN.out; omega)
     have r0:=cell_below HF.out.bel hx0
     have r1:=cell_below HF.out.bel hx1
     obtain ⟨wa,ea⟩:=nmQ (wr.alloc (.cells #[.int .i64 0,.int .u64 0] 188))
     have na:wa.heap[wr.heap.size]?=some (.cells #[.int .i64 0,.int .u64 0] 188 (0,0)):=nbQ ea
     have hfa:=foot_add1 HF.out ea na
     have vn0:wa.heap[wr.heap.size]?=some (.cells #[.int .i64 0,.int .u64 0] 188 (0,0)):=na
     have vc0:wa.cell? ⟨wr.heap.size,0,none⟩=some (.int .i64 0):=coQ vn0 0
     have vf0:=foQ vn0 0
     obtain ⟨u1,ve0⟩:=nmQ (wa.setCell ⟨wr.heap.size,0,none⟩ (.int .i64 x.1))
     have vn1:u1.heap[wr.heap.size]?=some (.cells #[.int .i64 x.1,.int .u64 0] 188 (0,0)):=hsQ ve0 vn0
     have vc1:u1.cell? ⟨wr.heap.size,1,none⟩=some (.int .u64 0):=coQ vn1 1
     have vf1:=foQ vn1 1
     obtain ⟨u2,ve1⟩:=nmQ (u1.setCell ⟨wr.heap.size,1,none⟩ (u64 x.2))
     have vn2:u2.heap[wr.heap.size]?=some (.cells #[.int .i64 x.1,u64 x.2] 188 (0,0)):=hsQ ve1 vn1
     have HFu:=hid (show Foot w.heap.size w u2 ([blkI w.heap.size (.cells #[.slice to_ T tc,ov,sv,pv,.int .i64 G.start] 27 (0,0)),blkI W1.heap.size (.cells #[kv,nv] 55 (0,0)),queI w.heap.size 2 v (dX l0 z ps i).length (dC (dX l0 z ps i))] ++ [blkI wr.heap.size (.cells #[.int .i64 x.1,u64 x.2] 188 (0,0))]) from by
      have h1:=foot_set (k:=0) (i:=0) (v:=.int .i64 x.1) hfa rfl
      rw [ve0] at h1
      have h2:=foot_set (m:=[blkI wr.heap.size (.cells #[.int .i64 x.1,.int .u64 0] 188 (0,0))]) (k:=0) (i:=1) (v:=u64 x.2) h1 rfl
      rw [ve1] at h2
      exact h2)
     have HFd:=hid (foot_drops HFu.out)
     have q0:u2.cell? ⟨wr.heap.size,0,none⟩=some (.int .i64 x.1):=coQ vn2 0
     have q1:u2.cell? ⟨wr.heap.size,1,none⟩=some (u64 x.2):=coQ vn2 1
     obtain ⟨hb,hh⟩:=nmQ (hasN x.2 z)
     have KH:=hid (S13.Has_any x.2 z hxu u2)
     rw [hh] at KH
     have HH:=hid hh
     clear hx hx0 hx1 hi1 hfa na vn0 vn1 vn2 hh hxu hdl
     go_wp2_with fail
     refine KH.out.mono ?_
     rintro e w' ⟨rfl,rfl⟩
     clear vc0 vf0 vc1 vf1 ve0 ve1 ea r0 r1 KH
     cases hb with
     | false =>
      have HF9:=hid (show Foot w.heap.size w u2 [blkI w.heap.size (.cells #[.slice to_ T tc,ov,sv,pv,.int .i64 G.start] 27 (0,0)),blkI W1.heap.size (.cells #[kv,nv] 55 (0,0)),queI w.heap.size 2 v (dX l0 z ps (i + 1)).length (dC (dX l0 z ps (i + 1)))] from by
       rw [HS.out,one1,HH.out,if_neg Bool.false_ne_true,List.append_nil]
       exact HFd.out)
      go_wp2_with fail
      refine ⟨⟨i + 1,_,by omega,rfl,rfl,HF9⟩,?_⟩
      show N - ((i:Int) + 1).toNat < N - ((i:Int)).toNat
      omega
     | true =>
      obtain ⟨vo,vc,rfl⟩:=(show ownsT u2 w.heap.size 2 v (dX l0 z ps i).length _ from HFd.out.ok 2 _ rfl).shape
      by_cases hneg:x.1 < 0
      ·have j2:decide (x.1 < 0)=true:=decide_eq_true hneg
       have HO:=hid (show one1 z x=[(3,0)] from by rw [one1,HH.out,if_pos rfl,if_pos hneg])
       obtain ⟨wq,eq⟩:=nmQ (u2.alloc (.cells #[.int .i64 3,.int .i64 0] 91))
       have nq:wq.heap[u2.heap.size]?=some (.cells #[.int .i64 3,.int .i64 0] 91 (0,0)):=nbQ eq
       have HFq:=hid (HFd.out.below (show Below u2.heap.size u2 wq by exact baQ eq))
       have HCQ:=hid (show ∀ i u,[(.int .i64 3:Value),.int .i64 0][i]?=some u->wq.cell? ⟨u2.heap.size,i,none⟩=some u from fun i u hi=>by
        rw [coQ nq,<-hi,<-List.getElem?_toArray])
       have HOQ:=hid (show ∀ q ∈ [(.int .i64 3:Value),.int .i64 0],q.oneCell'=true from fun q hq=>one_two rfl rfl q hq)
       have HBq:=hid (show w.heap.size<=wq.heap.size from Nat.le_trans HFq.out.le HFq.out.bel.size)
       have HOW:=hid (show ownsT wq w.heap.size 2 (.slice vo (dX l0 z ps i).length vc) (dX l0 z ps i).length (dC (dX l0 z ps i)) from HFq.out.ok 2 _ rfl)
       clear nq
       go_wp2_with (refine wpList_push_T rfl (.tmp 57) (.tmp 59) 87 91 rfl (.agg #[.int .i64 0,.int .i64 0]) 2 16 Tryz.underlying87 info91 rfl (by decide) (.slice vo (dX l0 z ps i).length vc) (dX l0 z ps i).length (dC (dX l0 z ps i)) rfl HOW.out u2.heap.size rfl [.int .i64 3,.int .i64 0] rfl HCQ.out HOQ.out HDL.out HBq.out ?_)
       intro ao2 c8 w8 hown hg8 hat
       have h8:=HFq.out.push_que 2 rfl hown hg8 hat
       have e8:(dX l0 z ps i).length + 1=(dX l0 z ps (i + 1)).length:=by rw [HS.out,HO.out,List.length_append]; rfl
       have e9:dC (dX l0 z ps i) ++ [.int .i64 3,.int .i64 0]=dC (dX l0 z ps (i + 1)):=by rw [HS.out,HO.out,dC_append]; rfl
       rw [e8,e9] at h8
       rw [e8]
       have HF8:=hid h8
       clear h8 hown hg8 hat e8 e9 eq
       go_wp2_with fail
       refine ⟨⟨i + 1,_,by omega,rfl,rfl,HF8⟩,?_⟩
       show N - ((i:Int) + 1).toNat < N - ((i:Int)).toNat
       omega
      ·have j2:decide (x.1 < 0)=false:=decide_eq_false hneg
       have HO:=hid (show one1 z x=[(2,x.1)] from by rw [one1,HH.out,if_pos rfl,if_neg hneg])
       obtain ⟨wq,eq⟩:=nmQ (u2.alloc (.cells #[.int .i64 2,.int .i64 x.1] 91))
       have nq:wq.heap[u2.heap.size]?=some (.cells #[.int .i64 2,.int .i64 x.1] 91 (0,0)):=nbQ eq
       have HFq:=hid (HFd.out.below (show Below u2.heap.size u2 wq by exact baQ eq))
       have HCQ:=hid (show ∀ i u,[(.int .i64 2:Value),.int .i64 x.1][i]?=some u->wq.cell? ⟨u2.heap.size,i,none⟩=some u from fun i u hi=>by
        rw [coQ nq,<-hi,<-List.getElem?_toArray])
       have HOQ:=hid (show ∀ q ∈ [(.int .i64 2:Value),.int .i64 x.1],q.oneCell'=true from fun q hq=>one_two rfl rfl q hq)
       have HBq:=hid (show w.heap.size<=wq.heap.size from Nat.le_trans HFq.out.le HFq.out.bel.size)
       have HOW:=hid (show ownsT wq w.heap.size 2 (.slice vo (dX l0 z ps i).length vc) (dX l0 z ps i).length (dC (dX l0 z ps i)) from HFq.out.ok 2 _ rfl)
       clear nq
       go_wp2_with (refine wpList_push_T rfl (.tmp 41) (.tmp 45) 87 91 rfl (.agg #[.int .i64 0,.int .i64 0]) 2 16 Tryz.underlying87 info91 rfl (by decide) (.slice vo (dX l0 z ps i).length vc) (dX l0 z ps i).length (dC (dX l0 z ps i)) rfl HOW.out u2.heap.size rfl [.int .i64 2,.int .i64 x.1] rfl HCQ.out HOQ.out HDL.out HBq.out ?_)
       intro ao2 c8 w8 hown hg8 hat
       have h8:=HFq.out.push_que 2 rfl hown hg8 hat
       have e8:(dX l0 z ps i).length + 1=(dX l0 z ps (i + 1)).length:=by rw [HS.out,HO.out,List.length_append]; rfl
       have e9:dC (dX l0 z ps i) ++ [.int .i64 2,.int .i64 x.1]=dC (dX l0 z ps (i + 1)):=by rw [HS.out,HO.out,dC_append]; rfl
       rw [e8,e9] at h8
       rw [e8]
       have HF8:=hid h8
       clear h8 hown hg8 hat e8 e9 eq
       go_wp2_with fail
       refine ⟨⟨i + 1,_,by omega,rfl,rfl,HF8⟩,?_⟩
       show N - ((i:Int) + 1).toNat < N - ((i:Int)).toNat
       omega
    ·have j1:¬ (i:Int) < (N:Int):=by omega
     obtain rfl:i=N:=by omega
     have HOW:=hid (show ownsT wr w.heap.size 2 _ _ _ from HF.out.ok 2 _ rfl)
     have HBE:=hid HF.out.bel
     clear HF
     go_wp2_with fail
     go_ret
     exact ⟨_,rfl,HBE.out,by rw [HE.out]; exact HOW.out⟩
  ·have j1:decide (0<=g)=false:=decide_eq_false hg0
   have HE:=hid (show deedsX G nx at_ k ps=dX [] (k:Int) ps N from by unfold deedsX goOf dX; rw [HT.out,if_neg hkT,if_neg hkT,hg,if_neg hg0,<-HN.out,List.take_length])
   obtain ⟨l0,hl0⟩:∃ l0:List It,[]=l0:=⟨_,rfl⟩
   have HL:=hid (show l0.length<=1 from by rw [<-hl0]; decide)
   rw [hl0] at HE
   have HF:Hid (Foot w.heap.size w w3 [blkI w.heap.size (.cells #[.slice to_ T tc,ov,sv,pv,.int .i64 G.start] 27 (0,0)),blkI W1.heap.size (.cells #[kv,nv] 55 (0,0)),queI w.heap.size 2 (.slice none 0 0) (l0).length (dC (l0))]):=hid (by rw [<-hl0]; exact HF.out)
   obtain ⟨z,hz⟩:∃ z:Int,(k:Int)=z:=⟨_,rfl⟩
   rw [hz] at HE ⊢
   go_wp2_with fail
   go_loopw [11,37] (fun t11 t37 wr=>∃ (i:Nat) (v:Value),i<=N/\v=t11/\t37=.int .i64 (i:Int)/\Hid (Foot w.heap.size w wr [blkI w.heap.size (.cells #[.slice to_ T tc,ov,sv,pv,.int .i64 G.start] 27 (0,0)),blkI W1.heap.size (.cells #[kv,nv] 55 (0,0)),queI w.heap.size 2 v (dX l0 z ps i).length (dC (dX l0 z ps i))])) (fun _ t37 _=>N - (RowKit.intOf t37).toNat)
   case atStart=>exact ⟨0,_,Nat.zero_le _,rfl,rfl,hid (by rw [dX_zero]; exact HF.out)⟩
   case round =>
    clear HF
    obtain ⟨i,v,hiN,rfl,rfl,HF⟩:=hrel
    by_cases hlt:i < N
    ·have j1:(i:Int) < (N:Int):=by omega
     have j0:(0:Int)<=(i:Int):=by omega
     obtain ⟨pb,pf,rfl,hi1⟩:=HPX.out (by omega)
     obtain ⟨hx0,hx1⟩:=hi1 i hlt
     obtain ⟨x,hx⟩:=nmQ (ps.getD i (0,0))
     have hxu:=HU.out i
     rw [hx] at hx0 hx1 hxu
     have HS:=hid (show dX l0 z ps (i + 1)=dX l0 z ps i ++ one1 z x from by rw [<-hx]; exact dX_succ (by rw [HN.out]; exact hlt))
     have hdl:=dX_len l0 z ps i
     have HDL:=hid (show (dX l0 z ps i).length<=1000000000000 from by have:=HL.out; have:=HN.out; omega)
     have r0:=cell_below HF.out.bel hx0
     have r1:=cell_below HF.out.bel hx1
     obtain ⟨wa,ea⟩:=nmQ (wr.alloc (.cells #[.int .i64 0,.int .u64 0] 188))
     have na:wa.heap[wr.heap.size]?=some (.cells #[.int .i64 0,.int .u64 0] 188 (0,0)):=nbQ ea
     have hfa:=foot_add1 HF.out ea na
     have vn0:wa.heap[wr.heap.size]?=some (.cells #[.int .i64 0,.int .u64 0] 188 (0,0)):=na
     have vc0:wa.cell? ⟨wr.heap.size,0,none⟩=some (.int .i64 0):=coQ vn0 0
     have vf0:=foQ vn0 0
     obtain ⟨u1,ve0⟩:=nmQ (wa.setCell ⟨wr.heap.size,0,none⟩ (.int .i64 x.1))
     have vn1:u1.heap[wr.heap.size]?=some (.cells #[.int .i64 x.1,.int .u64 0] 188 (0,0)):=hsQ ve0 vn0
     have vc1:u1.cell? ⟨wr.heap.size,1,none⟩=some (.int .u64 0):=coQ vn1 1
     have vf1:=foQ vn1 1
     obtain ⟨u2,ve1⟩:=nmQ (u1.setCell ⟨wr.heap.size,1,none⟩ (u64 x.2))
     have vn2:u2.heap[wr.heap.size]?=some (.cells #[.int .i64 x.1,u64 x.2] 188 (0,0)):=hsQ ve1 vn1
     have HFu:=hid (show Foot w.heap.size w u2 ([blkI w.heap.size (.cells #[.slice to_ T tc,ov,sv,pv,.int .i64 G.start] 27 (0,0)),blkI W1.heap.size (.cells #[kv,nv] 55 (0,0)),queI w.heap.size 2 v (dX l0 z ps i).length (dC (dX l0 z ps i))] ++ [blkI wr.heap.size (.cells #[.int .i64 x.1,u64 x.2] 188 (0,0))]) from by
      have h1:=foot_set (k:=0) (i:=0) (v:=.int .i64 x.1) hfa rfl
      rw [ve0] at h1
      have h2:=foot_set (m:=[blkI wr.heap.size (.cells #[.int .i64 x.1,.int .u64 0] 188 (0,0))]) (k:=0) (i:=1) (v:=u64 x.2) h1 rfl
      rw [ve1] at h2
      exact h2)
     have HFd:=hid (foot_drops HFu.out)
     have q0:u2.cell? ⟨wr.heap.size,0,none⟩=some (.int .i64 x.1):=coQ vn2 0
     have q1:u2.cell? ⟨wr.heap.size,1,none⟩=some (u64 x.2):=coQ vn2 1
     obtain ⟨hb,hh⟩:=nmQ (hasN x.2 z)
     have KH:=hid (S13.Has_any x.2 z hxu u2)
     rw [hh] at KH
     have HH:=hid hh
     clear hx hx0 hx1 hi1 hfa na vn0 vn1 vn2 hh hxu hdl
     go_wp2_with fail
     refine KH.out.mono ?_
     rintro e w' ⟨rfl,rfl⟩
     clear vc0 vf0 vc1 vf1 ve0 ve1 ea r0 r1 KH
     cases hb with
     | false =>
      have HF9:=hid (show Foot w.heap.size w u2 [blkI w.heap.size (.cells #[.slice to_ T tc,ov,sv,pv,.int .i64 G.start] 27 (0,0)),blkI W1.heap.size (.cells #[kv,nv] 55 (0,0)),queI w.heap.size 2 v (dX l0 z ps (i + 1)).length (dC (dX l0 z ps (i + 1)))] from by
       rw [HS.out,one1,HH.out,if_neg Bool.false_ne_true,List.append_nil]
       exact HFd.out)
      go_wp2_with fail
      refine ⟨⟨i + 1,_,by omega,rfl,rfl,HF9⟩,?_⟩
      show N - ((i:Int) + 1).toNat < N - ((i:Int)).toNat
      omega
     | true =>
      obtain ⟨vo,vc,rfl⟩:=(show ownsT u2 w.heap.size 2 v (dX l0 z ps i).length _ from HFd.out.ok 2 _ rfl).shape
      by_cases hneg:x.1 < 0
      ·have j2:decide (x.1 < 0)=true:=decide_eq_true hneg
       have HO:=hid (show one1 z x=[(3,0)] from by rw [one1,HH.out,if_pos rfl,if_pos hneg])
       obtain ⟨wq,eq⟩:=nmQ (u2.alloc (.cells #[.int .i64 3,.int .i64 0] 91))
       have nq:wq.heap[u2.heap.size]?=some (.cells #[.int .i64 3,.int .i64 0] 91 (0,0)):=nbQ eq
       have HFq:=hid (HFd.out.below (show Below u2.heap.size u2 wq by exact baQ eq))
       have HCQ:=hid (show ∀ i u,[(.int .i64 3:Value),.int .i64 0][i]?=some u->wq.cell? ⟨u2.heap.size,i,none⟩=some u from fun i u hi=>by
        rw [coQ nq,<-hi,<-List.getElem?_toArray])
       have HOQ:=hid (show ∀ q ∈ [(.int .i64 3:Value),.int .i64 0],q.oneCell'=true from fun q hq=>one_two rfl rfl q hq)
       have HBq:=hid (show w.heap.size<=wq.heap.size from Nat.le_trans HFq.out.le HFq.out.bel.size)
       have HOW:=hid (show ownsT wq w.heap.size 2 (.slice vo (dX l0 z ps i).length vc) (dX l0 z ps i).length (dC (dX l0 z ps i)) from HFq.out.ok 2 _ rfl)
       clear nq
       go_wp2_with (refine wpList_push_T rfl (.tmp 57) (.tmp 59) 87 91 rfl (.agg #[.int .i64 0,.int .i64 0]) 2 16 Tryz.underlying87 info91 rfl (by decide) (.slice vo (dX l0 z ps i).length vc) (dX l0 z ps i).length (dC (dX l0 z ps i)) rfl HOW.out u2.heap.size rfl [.int .i64 3,.int .i64 0] rfl HCQ.out HOQ.out HDL.out HBq.out ?_)
       intro ao2 c8 w8 hown hg8 hat
       have h8:=HFq.out.push_que 2 rfl hown hg8 hat
       have e8:(dX l0 z ps i).length + 1=(dX l0 z ps (i + 1)).length:=by rw [HS.out,HO.out,List.length_append]; rfl
       have e9:dC (dX l0 z ps i) ++ [.int .i64 3,.int .i64 0]=dC (dX l0 z ps (i + 1)):=by rw [HS.out,HO.out,dC_append]; rfl
       rw [e8,e9] at h8
       rw [e8]
       have HF8:=hid h8
       clear h8 hown hg8 hat e8 e9 eq
       go_wp2_with fail
       refine ⟨⟨i + 1,_,by omega,rfl,rfl,HF8⟩,?_⟩
       show N - ((i:Int) + 1).toNat < N - ((i:Int)).toNat
       omega
      ·have j2:decide (x.1 < 0)=false:=decide_eq_false hneg
       have HO:=hid (show one1 z x=[(2,x.1)] from by rw [one1,HH.out,if_pos rfl,if_neg hneg])
       obtain ⟨wq,eq⟩:=nmQ (u2.alloc (.cells #[.int .i64 2,.int .i64 x.1] 91))
       have nq:wq.heap[u2.heap.size]?=some (.cells #[.int .i64 2,.int .i64 x.1] 91 (0,0)):=nbQ eq
       have HFq:=hid (HFd.out.below (show Below u2.heap.size u2 wq by exact baQ eq))
       have HCQ:=hid (show ∀ i u,[(.int .i64 2:Value),.int .i64 x.1][i]?=some u->wq.cell? ⟨u2.heap.size,i,none⟩=some u from fun i u hi=>by
        rw [coQ nq,<-hi,<-List.getElem?_toArray])
       have HOQ:=hid (show ∀ q ∈ [(.int .i64 2:Value),.int .i64 x.1],q.oneCell'=true from fun q hq=>one_two rfl rfl q hq)
       have HBq:=hid (show w.heap.size<=wq.heap.size from Nat.le_trans HFq.out.le HFq.out.bel.size)
       have HOW:=hid (show ownsT wq w.heap.size 2 (.slice vo (dX l0 z ps i).length vc) (dX l0 z ps i).length (dC (dX l0 z ps i)) from HFq.out.ok 2 _ rfl)
       clear nq
       go_wp2_with (refine wpList_push_T rfl (.tmp 41) (.tmp 45) 87 91 rfl (.agg #[.int .i64 0,.int .i64 0]) 2 16 Tryz.underlying87 info91 rfl (by decide) (.slice vo (dX l0 z ps i).length vc) (dX l0 z ps i).length (dC (dX l0 z ps i)) rfl HOW.out u2.heap.size rfl [.int .i64 2,.int .i64 x.1] rfl HCQ.out HOQ.out HDL.out HBq.out ?_)
       intro ao2 c8 w8 hown hg8 hat
       have h8:=HFq.out.push_que 2 rfl hown hg8 hat
       have e8:(dX l0 z ps i).length + 1=(dX l0 z ps (i + 1)).length:=by rw [HS.out,HO.out,List.length_append]; rfl
       have e9:dC (dX l0 z ps i) ++ [.int .i64 2,.int .i64 x.1]=dC (dX l0 z ps (i + 1)):=by rw [HS.out,HO.out,dC_append]; rfl
       rw [e8,e9] at h8
       rw [e8]
       have HF8:=hid h8
       clear h8 hown hg8 hat e8 e9 eq
       go_wp2_with fail
       refine ⟨⟨i + 1,_,by omega,rfl,rfl,HF8⟩,?_⟩
       show N - ((i:Int) + 1).toNat < N - ((i:Int)).toNat
       omega
    ·have j1:¬ (i:Int) < (N:Int):=by omega
     obtain rfl:i=N:=by omega
     have HOW:=hid (show ownsT wr w.heap.size 2 _ _ _ from HF.out.ok 2 _ rfl)
     have HBE:=hid HF.out.bel
     clear HF
     go_wp2_with fail
     go_ret
     exact ⟨_,rfl,HBE.out,by rw [HE.out]; exact HOW.out⟩
end Go.Proofs.YticmnfmijdgmbaaGreatDoor
