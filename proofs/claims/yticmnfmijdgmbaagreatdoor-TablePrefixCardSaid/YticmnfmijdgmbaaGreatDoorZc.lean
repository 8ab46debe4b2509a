/- Done: which productions are passed. -/
import Derived.Test.YticmnfmijdgmbaaGreatDoorGa
import Derived.Test.YticmnfmijdgmbaaGreatDoorXm
set_option linter.unusedVariables false
set_option linter.unusedSimpArgs false
namespace Go.Proofs.YticmnfmijdgmbaaGreatDoor
open Go Go.RowKit Go.Lib
open X14 (It closeX rightX)
open S13 (u64)
open Classical in
noncomputable def doneB (G:GD) (l:List It) (us:List Nat) (i:Nat):Bool:=decide (i < us.length/\us.getD i 0 ≠ 0/\l.getD i (0,0) ∈ closeX G l/\(l.getD i (0,0)).2=((rightX G (l.getD i (0,0)).1).length:Int))
noncomputable def doneN (G:GD) (l:List It) (us:List Nat) (i:Nat):List Int:=((List.range i).filter (doneB G l us)).map fun i=>(l.getD i (0,0)).1
theorem doneN_yes {G:GD} {l:List It} {us:List Nat} {i:Nat} (h:doneB G l us i=true):doneN G l us (i + 1)=doneN G l us i ++ [(l.getD i (0,0)).1]:=by
 unfold doneN
 rw [List.range_succ,List.filter_append,List.map_append]
 simp [h]
theorem doneN_no {G:GD} {l:List It} {us:List Nat} {i:Nat} (h:doneB G l us i=false):doneN G l us (i + 1)=doneN G l us i:=by
 unfold doneN
 rw [List.range_succ,List.filter_append,List.map_append]
 simp [h]
theorem wpList_push_T {P:Program} {ops:Array Oper} {rest:List Oper} {o:Oper} {a:Act} {w:World} {B:Nat} {Q:Exit->Act->World->Prop} (hgd:o.guard=none) (s x:Operand) (t e:TypeId) (ho:o.op=.call {callee:=.builtin .append,args:=#[s,x],argTypes:=#[t,t]})
  (z:Value) (sz bytes:Nat) (ht:P.underlying t=some (.slice e)) (hinfo:(P.info? e).map (fun i=>(i.zero,i.size,i.bytes))=some (some z,sz,bytes)) (hz1:z.cells.size=sz) (hby:bytes<=24)
  (v:Value) (n:Nat) (xs:List Value) (hs:a.eval s=v) (hown:ownsT w B sz v n xs) (g:Nat) (hx:a.eval x=.slice (some ⟨g,0,none⟩) 1 1) (qs:List Value) (hql:qs.length=sz) (hb:∀ j u,qs[j]?=some u->w.cell? ⟨g,j,none⟩=some u) (hq:∀ q ∈ qs,q.oneCell'=true) (hn:n<=1000000000000) (hB:B<=w.heap.size)
  (h:∀ ao c w',ownsT w' B sz (.slice ao (n + 1) c) (n + 1) (xs ++ qs)->w.grownBy w' v.ownBlock->((Value.slice ao (n + 1) c).ownBlock=v.ownBlock\/(Value.slice ao (n + 1) c).ownBlock=some w.heap.size)->wpList P ops Q rest (a.put o.dst (.slice ao (n + 1) c)) w'):wpList P ops Q (o :: rest) a w:=by
 refine wpList_plain hgd fun K' hK'=>?_
 exact wp_push_T s x t e ho z sz bytes ht hinfo hz1 hby v n xs hs hown g hx qs hql hb hq hn hB (fun ao c w' h1 h2 h3=>hK' _ _ (h ao c w' h1 h2 h3))
theorem doneN_len (G:GD) (l:List It) (us:List Nat) (i:Nat):(doneN G l us i).length<=i:=by
 unfold doneN
 rw [List.length_map]
 exact Nat.le_trans (List.length_filter_le _ _) (by simp)
def DoneP (G:GD) (l:List It) (us:List Nat) (w:World) (e:Ending) (w':World):Prop:=
 ∃ v,e=.returned v/\Below w.heap.size w w'/\ownsT w' w.heap.size 1 v (doneN G l us l.length).length ((doneN G l us l.length).map fun p=>.int .i64 p)
set_option maxRecDepth 100000 in
set_option maxHeartbeats 8000000 in
theorem Done_any {G:GD} {gv iv av:Value} {w:World} {l:List It} {us:List Nat} (h:Gram w gv G) (hV:validB G=true) (hi:ItemsAt w iv l) (hl:l.length<=100000) (hu:U64s w av us) :
  Calls Tryz.prog 21 #[gv,.agg #[iv,av]] w (DoneP G l us w):=by
 have HGr:=hid h
 have HI:=hid hi
 have HV:=hid hV
 obtain ⟨io,ic,rfl,hil,hix⟩:=hi
 obtain ⟨ao,ac,rfl,hul,hux⟩:=hu
 obtain ⟨tv,ov,sv,pv,tf,rv,h⟩:=h
 obtain ⟨W1,B,hW1,hB,c0,c1,c2,c3,c4,hG,hb,hsz⟩:=gr_box h
 have hgv:=h.eq
 subst hgv hB
 have e1:=hW1.symm
 have n1:W1.heap[w.heap.size]?=some (.cells #[tv,ov,sv,pv,.int .i64 G.start] 27 (0,0)):=by rw [hW1]; exact new_block _ _
 obtain ⟨N,hN⟩:=nmQ (l.length)
 obtain ⟨M,hM⟩:=nmQ (us.length)
 have HN:=hid (And.intro hN hM)
 obtain ⟨W2,e2⟩:=nmQ (W1.alloc (.cells #[.slice io N ic,.slice ao M ac] 48))
 have n2:W2.heap[W1.heap.size]?=some (.cells #[.slice io N ic,.slice ao M ac] 48 (0,0)):=nbQ e2
 have h2:Below W1.heap.size W1 W2:=baQ e2
 have f1:=foot_add1 (l:=[]) (Foot.empty w w.heap.size (Nat.le_refl _)) e1 n1
 have f2:=foot_add1 f1 e2 n2
 have c0:=cell_below h2 c0
 have c1:=cell_below h2 c1
 have c2:=cell_below h2 c2
 have c3:=cell_below h2 c3
 have c4:=cell_below h2 c4
 have d0:W2.cell? ⟨W1.heap.size,0,none⟩=some (.slice io N ic):=coQ n2 0
 have hlN:N<=100000:=by rw [<-hN]; exact hl
 have KC:=Close_own (HGr.out.below f2.bel) HV.out (HI.out.below f2.bel) hl
 rw [hN] at KC hil hix ⊢
 rw [hM] at hul hux ⊢
 have KC:=hid KC
 have HF2:=hid f2
 have HIX:=hid hix
 have HUX:=hid hux
 clear h hG hb hW1 n1 n2 h2 f1 f2 hix hux hN hM hV
 go_enter Tryz.func21,Tryz.ntmps21
 go_wp2_with fail
 refine KC.out.mono ?_
 rintro e w3 ⟨g,c,rfl,hrow,hg1,hg2,hb3⟩
 clear e2
 generalize W1.heap.size=b48 at *
 have f3:=HF2.out.add (frozI [(g,closeX G l)]) hb3 (fun q hq=>by
  obtain rfl:q=(g,closeX G l):=by simpa using hq
  exact hrow) (fun b hb=>by
  have hb':b ∈ [g]:=hb
  obtain rfl:b=g:=by simpa using hb'
  exact ⟨hg1,hg2⟩)
 have HF:=hid (show Foot w.heap.size w w3 [blkI w.heap.size (.cells #[tv,ov,sv,pv,.int .i64 G.start] 27 (0,0)),blkI b48 (.cells #[.slice io N ic,.slice ao M ac] 48 (0,0)),frozI [(g,closeX G l)],queI w.heap.size 1 (.slice none 0 0) (doneN G l us 0).length ((doneN G l us 0).map fun p=>Value.int .i64 p)] from foot_newrow f3)
 have d0:w3.cell? ⟨b48,0,none⟩=some (.slice io N ic):=cell_below hb3 d0
 clear hrow hg1 hg2 hb3 f3 KC HF2 c0 c1 c2 c3 c4 e1
 go_wp2_with fail
 clear d0
 go_loopw [6,7,8,16] (fun t6 t7 t8 t16 wr=>∃ (i:Nat) (v:Value),i<=N/\v=t6/\t16=.int .i64 (i:Int)/\Hid (Foot w.heap.size w wr [blkI w.heap.size (.cells #[tv,ov,sv,pv,.int .i64 G.start] 27 (0,0)),blkI b48 (.cells #[.slice io N ic,.slice ao M ac] 48 (0,0)),frozI [(g,closeX G l)],queI w.heap.size 1 v (doneN G l us i).length ((doneN G l us i).map fun p=>Value.int .i64 p)])) (fun _ _ _ t16 _=>N - (RowKit.intOf t16).toNat)
 case atStart=>exact ⟨0,_,Nat.zero_le _,rfl,rfl,HF⟩
 case round =>
  clear HF
  obtain ⟨i,v,hiN,rfl,rfl,HF⟩:=hrel
  by_cases hlt:i < N
  ·have j1:(i:Int) < (N:Int):=by omega
   have j0:(0:Int)<=(i:Int):=by omega
   obtain ⟨ib,io2,rfl,hi1⟩:=HIX.out (by omega)
   obtain ⟨hx0,hx1⟩:=hi1 i hlt
   obtain ⟨x,hx⟩:=nmQ (l.getD i (0,0))
   rw [hx] at hx0 hx1
   have HX:=hid hx
   have r0:=cell_below HF.out.bel hx0
   have r1:=cell_below HF.out.bel hx1
   obtain ⟨wa,ea⟩:=nmQ (wr.alloc (.cells #[.int .i64 0,.int .i64 0] 60))
   have na:wa.heap[wr.heap.size]?=some (.cells #[.int .i64 0,.int .i64 0] 60 (0,0)):=nbQ ea
   have hfa:=foot_add1 HF.out ea na
   have vn0:wa.heap[wr.heap.size]?=some (.cells #[.int .i64 0,.int .i64 0] 60 (0,0)):=na
   have vc0:wa.cell? ⟨wr.heap.size,0,none⟩=some (.int .i64 0):=coQ vn0 0
   have vf0:=foQ vn0 0
   obtain ⟨u1,ve0⟩:=nmQ (wa.setCell ⟨wr.heap.size,0,none⟩ (.int .i64 x.1))
   have vn1:u1.heap[wr.heap.size]?=some (.cells #[.int .i64 x.1,.int .i64 0] 60 (0,0)):=hsQ ve0 vn0
   have vc1:u1.cell? ⟨wr.heap.size,1,none⟩=some (.int .i64 0):=coQ vn1 1
   have vf1:=foQ vn1 1
   obtain ⟨u2,ve1⟩:=nmQ (u1.setCell ⟨wr.heap.size,1,none⟩ (.int .i64 x.2))
   have vn2:u2.heap[wr.heap.size]?=some (.cells #[.int .i64 x.1,.int .i64 x.2] 60 (0,0)):=hsQ ve1 vn1
   have HFu:=hid (show Foot w.heap.size w u2 ([blkI w.heap.size (.cells #[tv,ov,sv,pv,.int .i64 G.start] 27 (0,0)),blkI b48 (.cells #[.slice (some ⟨ib,io2,none⟩) N ic,.slice ao M ac] 48 (0,0)),frozI [(g,closeX G l)],queI w.heap.size 1 v (doneN G l us i).length ((doneN G l us i).map fun p=>Value.int .i64 p)] ++ [blkI wr.heap.size (.cells #[.int .i64 x.1,.int .i64 x.2] 60 (0,0))]) from by
    have h1:=foot_set (k:=0) (i:=0) (v:=.int .i64 x.1) hfa rfl
    rw [ve0] at h1
    have h2:=foot_set (m:=[blkI wr.heap.size (.cells #[.int .i64 x.1,.int .i64 0] 60 (0,0))]) (k:=0) (i:=1) (v:=.int .i64 x.2) h1 rfl
    rw [ve1] at h2
    exact h2)
   clear hx hx0 hx1 hi1 hfa na vn0 vn1 vn2
   go_wp2_with fail
   clear vc0 vf0 vc1 vf1 ve0 ve1 ea r0 r1
   have nb:=foot_at (l:=[]) (m:=[blkI w.heap.size (.cells #[tv,ov,sv,pv,.int .i64 G.start] 27 (0,0)),blkI b48 (.cells #[.slice (some ⟨ib,io2,none⟩) N ic,.slice ao M ac] 48 (0,0)),frozI [(g,closeX G l)],queI w.heap.size 1 v (doneN G l us i).length ((doneN G l us i).map fun p=>Value.int .i64 p)]) (foot_drops HFu.out) (k:=0) rfl
   have n4:=foot_at (l:=[]) (m:=[blkI w.heap.size (.cells #[tv,ov,sv,pv,.int .i64 G.start] 27 (0,0)),blkI b48 (.cells #[.slice (some ⟨ib,io2,none⟩) N ic,.slice ao M ac] 48 (0,0)),frozI [(g,closeX G l)],queI w.heap.size 1 v (doneN G l us i).length ((doneN G l us i).map fun p=>Value.int .i64 p)]) (foot_drops HFu.out) (k:=1) rfl
   have nf:=foot_at (l:=[]) (m:=[blkI w.heap.size (.cells #[tv,ov,sv,pv,.int .i64 G.start] 27 (0,0)),blkI b48 (.cells #[.slice (some ⟨ib,io2,none⟩) N ic,.slice ao M ac] 48 (0,0)),frozI [(g,closeX G l)],queI w.heap.size 1 v (doneN G l us i).length ((doneN G l us i).map fun p=>Value.int .i64 p)]) (foot_drops HFu.out) (k:=2) rfl
   have nx:=foot_at HFu.out (k:=0) rfl
   have F0:=hid (show ∀ w',Below u2.heap.size u2 w'->w'.cell? ⟨b48,1,none⟩=some (.slice ao M ac) from fun w' hC=>cell_below hC (coQ n4 1))
   have F1:=hid (show ∀ w',Below u2.heap.size u2 w'->w'.cell? ⟨wr.heap.size,0,none⟩=some (.int .i64 x.1) from fun w' hC=>cell_below hC (coQ nx 0))
   have F2:=hid (show ∀ w',Below u2.heap.size u2 w'->w'.cell? ⟨wr.heap.size,1,none⟩=some (.int .i64 x.2) from fun w' hC=>cell_below hC (coQ nx 1))
   have F3:=hid (show ∀ w',Below u2.heap.size u2 w'->w'.cell? ⟨w.heap.size,0,none⟩=some tv from fun w' hC=>cell_below hC (coQ nb 0))
   have F4:=hid (show ∀ w',Below u2.heap.size u2 w'->w'.cell? ⟨w.heap.size,1,none⟩=some ov from fun w' hC=>cell_below hC (coQ nb 1))
   have F5:=hid (show ∀ w',Below u2.heap.size u2 w'->w'.cell? ⟨w.heap.size,2,none⟩=some sv from fun w' hC=>cell_below hC (coQ nb 2))
   have F6:=hid (show ∀ w',Below u2.heap.size u2 w'->w'.cell? ⟨w.heap.size,3,none⟩=some pv from fun w' hC=>cell_below hC (coQ nb 3))
   have F7:=hid (show ∀ w',Below u2.heap.size u2 w'->w'.cell? ⟨w.heap.size,4,none⟩=some (.int .i64 G.start) from fun w' hC=>cell_below hC (coQ nb 4))
   have HNF:=hid nf
   have HNO:=hid (show doneB G l us i=false->∀ w6,Below u2.heap.size u2 w6->Foot w.heap.size w w6 [blkI w.heap.size (.cells #[tv,ov,sv,pv,.int .i64 G.start] 27 (0,0)),blkI b48 (.cells #[.slice (some ⟨ib,io2,none⟩) N ic,.slice ao M ac] 48 (0,0)),frozI [(g,closeX G l)],queI w.heap.size 1 v (doneN G l us (i + 1)).length ((doneN G l us (i + 1)).map fun p=>Value.int .i64 p)] from fun hd w6 hb6=>by
    rw [doneN_no hd]
    exact (foot_drops (m:=[blkI wr.heap.size (.cells #[.int .i64 x.1,.int .i64 x.2] 60 (0,0))]) HFu.out).below hb6)
   clear nb n4 nf nx
   by_cases hiM:i < M
   case neg =>
    have hm:¬ (i:Int) < (M:Int):=by omega
    have HD:=hid (show doneB G l us i=false from decide_eq_false fun h=>hiM (by rw [<-HN.out.2]; exact h.1))
    refine wp_region_below (by kernel_rfl) (by kernel_rfl) ?_
    iterate 27
     first
     | with_reducible refine BigFrame.wpQuiet_skip (by with_unfolding_all rfl) ?_
     | with_reducible refine BigFrame.wpQuiet_want (by kernel_rfl) (fun K hK=>?_)
       apply Exists.intro
       refine ⟨fun w' hC=>?_,hK _ ?_⟩
       ·have f0':=F0.out w' hC
        have f1':=F1.out w' hC
        have f2':=F2.out w' hC
        have f3':=F3.out w' hC
        have f4':=F4.out w' hC
        have f5':=F5.out w' hC
        have f6':=F6.out w' hC
        have f7':=F7.out w' hC
        unfold Oper.quietAt
        go_simp
        first | with_reducible rfl | done
       clear hK K
     try simp only [Act.put,sjA,sj0,sjS]
    refine wpQuiet_nil ?_
    intro w6 hb6
    have HF6:=hid (HNO.out HD.out w6 hb6)
    clear hb6
    go_wp2_with fail
    refine ⟨⟨i + 1,_,by omega,rfl,rfl,HF6⟩,?_⟩
    show N - ((i:Int) + 1).toNat < N - ((i:Int)).toNat
    omega
   have hm:(i:Int) < (M:Int):=by omega
   obtain ⟨ub,uf,rfl,hu1⟩:=HUX.out (by omega)
   have hu2:=cell_below HFu.out.bel (hu1 i hiM)
   obtain ⟨S,hS⟩:=nmQ (us.getD i 0)
   rw [hS] at hu2
   have F8:=hid (show ∀ w',Below u2.heap.size u2 w'->w'.cell? ⟨ub,uf + i,none⟩=some (.int .u64 (S:Int)) from fun w' hC=>cell_below hC hu2)
   clear hu1 hu2
   by_cases hS0:S=0
   case pos =>
    subst hS0
    have HD:=hid (show doneB G l us i=false from decide_eq_false fun h=>h.2.1 hS)
    refine wp_region_below (by kernel_rfl) (by kernel_rfl) ?_
    iterate 27
     first
     | with_reducible refine BigFrame.wpQuiet_skip (by with_unfolding_all rfl) ?_
     | with_reducible refine BigFrame.wpQuiet_want (by kernel_rfl) (fun K hK=>?_)
       apply Exists.intro
       refine ⟨fun w' hC=>?_,hK _ ?_⟩
       ·have f0':=F0.out w' hC
        have f1':=F1.out w' hC
        have f2':=F2.out w' hC
        have f3':=F3.out w' hC
        have f4':=F4.out w' hC
        have f5':=F5.out w' hC
        have f6':=F6.out w' hC
        have f7':=F7.out w' hC
        have f8':=F8.out w' hC
        unfold Oper.quietAt
        go_simp
        first | with_reducible rfl | done
       clear hK K
     try simp only [Act.put,sjA,sj0,sjS]
    refine wpQuiet_nil ?_
    intro w6 hb6
    have HF6:=hid (HNO.out HD.out w6 hb6)
    clear hb6
    go_wp2_with fail
    refine ⟨⟨i + 1,_,by omega,rfl,rfl,HF6⟩,?_⟩
    show N - ((i:Int) + 1).toNat < N - ((i:Int)).toNat
    omega
   have hS1:¬ (S:Int)=0:=by omega
   have hS2:((S:Int) != 0)=true:=bne_iff_ne.2 hS1
   have hLl:(closeX G l).length<=1573:=by
    have:=X14.closeV_len G l
    rw [closeV_eq HV.out] at this
    exact this
   have HIT:=hid (show ∀ w',Below u2.heap.size u2 w'->ItemsAt w' (.slice (some ⟨g,0,none⟩) (closeX G l).length c) (closeX G l) from fun w' hC=>(rowH_items (HNF.out (g,closeX G l) (by simp)) (by show (closeX G l).length<=_; omega)).below hC)
   by_cases hin:x ∈ closeX G l
   case neg =>
    have HD:=hid (show doneB G l us i=false from decide_eq_false fun h=>hin (by rw [<-HX.out]; exact h.2.2.1))
    have KI:=hid (show ∀ w',Below u2.heap.size u2 w'->Calls Tryz.prog 54 #[.slice (some ⟨g,0,none⟩) (closeX G l).length c,.agg #[.int .i64 x.1,.int .i64 x.2]] w' fun e w''=>e=.returned (.bool false)/\Below w'.heap.size w' w'' from fun w' hC=>by
     have:=contains_any (HIT.out w' hC) x (by omega)
     rw [decide_eq_false hin] at this
     exact this)
    clear hin
    refine wp_region_below (by kernel_rfl) (by kernel_rfl) ?_
    iterate 27
     first
     | with_reducible refine BigFrame.wpQuiet_skip (by with_unfolding_all rfl) ?_
     | with_reducible refine BigFrame.wpQuiet_want (by kernel_rfl) (fun K hK=>?_)
       apply Exists.intro
       refine ⟨fun w' hC=>?_,hK _ ?_⟩
       ·have f0':=F0.out w' hC
        have f1':=F1.out w' hC
        have f2':=F2.out w' hC
        have f3':=F3.out w' hC
        have f4':=F4.out w' hC
        have f5':=F5.out w' hC
        have f6':=F6.out w' hC
        have f7':=F7.out w' hC
        have f8':=F8.out w' hC
        unfold Oper.quietAt
        go_simp
        first | with_reducible rfl | with_reducible exact below_call hC (Nat.le_refl _) (KI.out w' hC)
       clear hK K
     try simp only [Act.put,sjA,sj0,sjS]
    refine wpQuiet_nil ?_
    intro w6 hb6
    have HF6:=hid (HNO.out HD.out w6 hb6)
    clear hb6
    go_wp2_with fail
    refine ⟨⟨i + 1,_,by omega,rfl,rfl,HF6⟩,?_⟩
    show N - ((i:Int) + 1).toNat < N - ((i:Int)).toNat
    omega
   have KI:=hid (show ∀ w',Below u2.heap.size u2 w'->Calls Tryz.prog 54 #[.slice (some ⟨g,0,none⟩) (closeX G l).length c,.agg #[.int .i64 x.1,.int .i64 x.2]] w' fun e w''=>e=.returned (.bool true)/\Below w'.heap.size w' w'' from fun w' hC=>by
    have:=contains_any (HIT.out w' hC) x (by omega)
    rw [decide_eq_true hin] at this
    exact this)
   have hth:=X14.there_iff.1 (((X14.closeX_is G l).2 x).1 hin).there
   obtain ⟨ln,hln⟩:=nmQ ((rightX G x.1).length)
   have KL:=hid (show ∀ w',Below u2.heap.size u2 w'->Calls Tryz.prog 55 #[.agg #[tv,ov,sv,pv,.int .i64 G.start],.int .i64 x.1] w' fun e w''=>e=.returned (.int .i64 (ln:Int))/\Below w'.heap.size w' w'' from fun w' hC=>by
    rw [<-hln]
    exact long_any (HGr.out.below (HFu.out.bel.trans (hC.mono HFu.out.bel.size))) x.1 hth.1 hth.2.1)
   have HLN:=hid hln
   have HIN:=hid hin
   clear hth hln hin
   by_cases hd:x.2=(ln:Int)
   case neg =>
    have HD:=hid (show doneB G l us i=false from decide_eq_false fun h=>hd (by
     have:=h.2.2.2
     rw [HX.out,HLN.out] at this
     exact this))
    have hd2:(x.2 == (ln:Int))=false:=beq_eq_false_iff_ne.2 hd
    refine wp_region_below (by kernel_rfl) (by kernel_rfl) ?_
    iterate 27
     with_reducible refine BigFrame.wpQuiet_want (by kernel_rfl) (fun K hK=>?_)
     apply Exists.intro
     refine ⟨fun w' hC=>?_,hK _ ?_⟩
     ·have f0':=F0.out w' hC
      have f1':=F1.out w' hC
      have f2':=F2.out w' hC
      have f3':=F3.out w' hC
      have f4':=F4.out w' hC
      have f5':=F5.out w' hC
      have f6':=F6.out w' hC
      have f7':=F7.out w' hC
      have f8':=F8.out w' hC
      unfold Oper.quietAt
      go_simp
      first | with_reducible rfl | with_reducible exact below_call hC (Nat.le_refl _) (KI.out w' hC) | with_reducible exact below_call hC (Nat.le_refl _) (KL.out w' hC)
     clear hK K
     try simp only [Act.put,sjA,sj0,sjS]
    refine wpQuiet_nil ?_
    intro w6 hb6
    have HF6:=hid (HNO.out HD.out w6 hb6)
    clear hb6
    go_wp2_with fail
    refine ⟨⟨i + 1,_,by omega,rfl,rfl,HF6⟩,?_⟩
    show N - ((i:Int) + 1).toNat < N - ((i:Int)).toNat
    omega
   have hd2:(x.2 == (ln:Int))=true:=by rw [hd]; exact beq_self_eq_true _
   have HD:=hid (show doneB G l us i=true from decide_eq_true ⟨by rw [HN.out.2]; exact hiM,by rw [hS]; exact hS0,by rw [HX.out]; exact HIN.out,by rw [HX.out,HLN.out]; exact hd⟩)
   clear hd
   refine wp_region_below (by kernel_rfl) (by kernel_rfl) ?_
   iterate 27
    with_reducible refine BigFrame.wpQuiet_want (by kernel_rfl) (fun K hK=>?_)
    apply Exists.intro
    refine ⟨fun w' hC=>?_,hK _ ?_⟩
    ·have f0':=F0.out w' hC
     have f1':=F1.out w' hC
     have f2':=F2.out w' hC
     have f3':=F3.out w' hC
     have f4':=F4.out w' hC
     have f5':=F5.out w' hC
     have f6':=F6.out w' hC
     have f7':=F7.out w' hC
     have f8':=F8.out w' hC
     unfold Oper.quietAt
     go_simp
     first | with_reducible rfl | with_reducible exact below_call hC (Nat.le_refl _) (KI.out w' hC) | with_reducible exact below_call hC (Nat.le_refl _) (KL.out w' hC)
    clear hK K
    try simp only [Act.put,sjA,sj0,sjS]
   refine wpQuiet_nil ?_
   intro w6 hb6
   have HF6:=hid ((foot_drops (m:=[blkI wr.heap.size (.cells #[.int .i64 x.1,.int .i64 x.2] 60 (0,0))]) HFu.out).below hb6)
   have x0:=F1.out w6 hb6
   obtain ⟨vo,vc,rfl⟩:=(show ownsT w6 w.heap.size 1 v (doneN G l us i).length _ from HF6.out.ok 3 _ rfl).shape
   obtain ⟨wq,eq⟩:=nmQ (w6.alloc (.cells #[.int .i64 x.1] 3))
   have nq:wq.heap[w6.heap.size]?=some (.cells #[.int .i64 x.1] 3 (0,0)):=nbQ eq
   have HFq:=hid (HF6.out.below (show Below w6.heap.size w6 wq by exact baQ eq))
   have HCQ:=hid (show ∀ i u,[Value.int .i64 x.1][i]?=some u->wq.cell? ⟨w6.heap.size,i,none⟩=some u from fun i u hi=>by
    rw [coQ nq,<-hi,<-List.getElem?_toArray])
   have HBq:=hid (show w.heap.size<=wq.heap.size from Nat.le_trans HFq.out.le HFq.out.bel.size)
   have HOW:=hid (show ownsT wq w.heap.size 1 (.slice vo (doneN G l us i).length vc) (doneN G l us i).length ((doneN G l us i).map fun p=>Value.int .i64 p) from HFq.out.ok 3 _ rfl)
   have hdl:=doneN_len G l us i
   have HDL:=hid (show (doneN G l us i).length<=1000000000000 from by omega)
   clear hb6 nq hdl
   go_wp2_with (refine wpList_push_T rfl (.tmp 48) (.tmp 51) 43 3 rfl (.int .i64 0) 1 8 Tryz.underlying43 info3 rfl (by decide) (.slice vo (doneN G l us i).length vc) (doneN G l us i).length ((doneN G l us i).map fun p=>Value.int .i64 p) rfl HOW.out w6.heap.size rfl [.int .i64 x.1] rfl HCQ.out (fun q hq=>by obtain rfl:q=.int .i64 x.1:=(by simpa using hq); rfl) HDL.out HBq.out ?_)
   intro ao2 c8 w8 hown hg8 hat
   have h8:=HFq.out.push_que 3 rfl hown hg8 hat
   have e8:(doneN G l us i).length + 1=(doneN G l us (i + 1)).length:=by rw [doneN_yes HD.out,List.length_append]; rfl
   have e9:(doneN G l us i).map (fun p=>Value.int .i64 p) ++ [.int .i64 x.1]=(doneN G l us (i + 1)).map fun p=>Value.int .i64 p:=by rw [doneN_yes HD.out,List.map_append,HX.out]; rfl
   rw [e8,e9] at h8
   rw [e8]
   have HF8:=hid h8
   clear h8 hown hg8 hat e8 e9 eq x0
   go_wp2_with fail
   refine ⟨⟨i + 1,_,by omega,rfl,rfl,HF8⟩,?_⟩
   show N - ((i:Int) + 1).toNat < N - ((i:Int)).toNat
   omega
  ·have j1:¬ (i:Int) < (N:Int):=by omega
   obtain rfl:i=N:=by omega
   have HOW:=hid (show ownsT wr w.heap.size 1 _ _ _ from HF.out.ok 3 _ rfl)
   have HBE:=hid HF.out.bel
   clear HF
   go_wp2_with fail
   go_ret
   refine ⟨_,rfl,HBE.out,?_⟩
   rw [HN.out.1]
   exact HOW.out
end Go.Proofs.YticmnfmijdgmbaaGreatDoor

namespace Go.Proofs.YticmnfmijdgmbaaGreatDoor
open Go Go.RowKit Go.Lib
open X14 (It)
open S13 (u64 hasN)
namespace S16
def dC (l:List It):List Value:=l.flatMap fun x=>[.int .i64 x.1,.int .i64 x.2]
theorem dC_append (a b:List It):dC (a ++ b)=dC a ++ dC b:=by unfold dC; exact List.flatMap_append
theorem dC_length (l:List It):(dC l).length=l.length * 2:=by
 unfold dC
 induction l with
 | nil=>rfl
 | cons x l ih=>rw [List.flatMap_cons,List.length_append,ih,List.length_cons]; show 2 + l.length * 2=(l.length + 1) * 2; omega
def PassAt (w:World) (v:Value) (ps:List (Int × Nat)):Prop:=RowAt v ps.length (fun i b off=>w.cell? ⟨b,off + i * 2,none⟩=some (.int .i64 (ps.getD i (0,0)).1)/\w.cell? ⟨b,off + i * 2 + 1,none⟩=some (u64 (ps.getD i (0,0)).2))
theorem PassAt.below {w w':World} {v:Value} {ps:List (Int × Nat)} (h:PassAt w v ps) (hb:Below w.heap.size w w'):PassAt w' v ps:=RowAt.mono h fun _ _ _ ⟨h1,h2⟩=>⟨cell_below hb h1,cell_below hb h2⟩
def one1 (z:Int) (p:Int × Nat):List It:=if hasN p.2 z=true then (if p.1 < 0 then [(3,0)] else [(2,p.1)]) else []
def goOf (G:GD) (nx:List (List Int)) (at_:Int) (k:Nat):List It:=if k=G.terms.length then [] else if 0<=goX G nx at_ (k:Int) then [(1,goX G nx at_ (k:Int))] else []
def dX (l0:List It) (z:Int) (ps:List (Int × Nat)) (i:Nat):List It:=l0 ++ (ps.take i).flatMap (one1 z)
def deedsX (G:GD) (nx:List (List Int)) (at_:Int) (k:Nat) (ps:List (Int × Nat)):List It:=
 goOf G nx at_ k ++ ps.flatMap (one1 (if k=G.terms.length then 63 else (k:Int)))
theorem dX_zero (l0:List It) (z:Int) (ps:List (Int × Nat)):dX l0 z ps 0=l0:=by unfold dX; simp
theorem dX_succ {l0:List It} {z:Int} {ps:List (Int × Nat)} {i:Nat} (h:i < ps.length):dX l0 z ps (i + 1)=dX l0 z ps i ++ one1 z (ps.getD i (0,0)):=by
 unfold dX
 rw [List.take_add_one,geQ h,List.flatMap_append,List.append_assoc,gdQ,geQ h]
 simp
theorem one1_len (z:Int) (p:Int × Nat):(one1 z p).length<=1:=by
 unfold one1
 split
 ·split <;> exact Nat.le_refl _
 ·exact Nat.zero_le _
theorem dX_len (l0:List It) (z:Int) (ps:List (Int × Nat)) (i:Nat):(dX l0 z ps i).length<=l0.length + ps.length:=by
 unfold dX
 rw [List.length_append]
 have h1:∀ l:List (Int × Nat),(l.flatMap (one1 z)).length<=l.length:=fun l=>by
  induction l with
  | nil=>exact Nat.le_refl _
  | cons x l ih=>rw [List.flatMap_cons,List.length_append,List.length_cons]; have:=one1_len z x; omega
 have:=h1 (ps.take i)
 have h2:(ps.take i).length<=ps.length:=by rw [List.length_take]; omega
 omega
end S16
theorem foot_newrow2 {B:Nat} {W w:World} {l:List Item} (h:Foot B W w l):Foot B W w (l ++ [queI B 2 (.slice none 0 0) 0 []]):=
 h.add (queI B 2 (.slice none 0 0) 0 []) (Below.refl _ _) (ownsT.nil _ _ _) (fun c hc=>by
  have:c ∈ (Value.slice none 0 0).ownBlock.toList:=hc
  simp [Value.ownBlock] at this)
end Go.Proofs.YticmnfmijdgmbaaGreatDoor

namespace Go.Proofs.YticmnfmijdgmbaaGreatDoor
open Go Go.RowKit Go.Lib
open X14 (It)
def ixN (x:It):List It->Nat
 | []=>0
 | a :: l=>if a=x then 0 else ixN x l + 1
theorem ixN_at {x:It} : ∀ {l:List It} {i:Nat},l[i]?=some x->¬ x ∈ l.take i->ixN x l=i
 | [],i,h,_=>by simp at h
 | a :: l,0,h,_=>by
  have:a=x:=by simpa using h
  rw [ixN,if_pos this]
 | a :: l,i + 1,h,hn=>by
  rw [List.take_succ_cons] at hn
  have h1:¬ a=x:=fun e=>hn (by rw [e]; exact List.mem_cons_self)
  rw [ixN,if_neg h1,ixN_at (l:=l) (i:=i) (by simpa using h) fun hm=>hn (List.mem_cons_of_mem _ hm)]
theorem ixN_get {x:It} : ∀ {l:List It},x ∈ l->l[ixN x l]?=some x
 | [],h=>by cases h
 | a :: l,h=>by
  by_cases e:a=x
  ·rw [ixN,if_pos e,e]; rfl
  ·rw [ixN,if_neg e,List.getElem?_cons_succ]
   exact ixN_get (by
    rcases List.mem_cons.1 h with h | h
    ·exact absurd h.symm e
    ·exact h)
def ixX (x:It) (l:List It):Int:=if x ∈ l then (ixN x l:Int) else -1
theorem ixX_at {x:It} {l:List It} {i:Nat} (h:l[i]?=some x) (hn:¬ x ∈ l.take i):ixX x l=(i:Int):=by
 unfold ixX
 rw [if_pos (List.mem_of_getElem? h),ixN_at h hn]
theorem ixX_off {x:It} {l:List It} (h:¬ x ∈ l):ixX x l=-1:=by
 unfold ixX
 rw [if_neg h]
set_option maxRecDepth 100000 in
set_option maxHeartbeats 8000000 in
theorem index_is {w:World} {v:Value} {l:List It} (hv:ItemsAt w v l) (x:It) (hl:l.length<=1000000) :
  Calls Tryz.prog 95 #[v,itV x] w fun e w'=>e=.returned (.int .i64 (ixX x l))/\Below w.heap.size w w':=by
 obtain ⟨x1,x2⟩:=x
 obtain ⟨W1,e1⟩:=nmQ (w.alloc (.cells #[.int .i64 x1,.int .i64 x2] 60))
 have n1:W1.heap[w.heap.size]?=some (.cells #[.int .i64 x1,.int .i64 x2] 60 (0,0)):=nbQ e1
 have h1:Below w.heap.size w W1:=baQ e1
 have HBW:=hid h1
 obtain ⟨vo,vc,rfl,hvl,hvx⟩:=hv.below h1
 obtain ⟨N,hN⟩:=nmQ (l.length)
 rw [hN] at hvl hvx hl ⊢
 have HN:=hid hN
 have HVX:=hid hvx
 have c0:W1.cell? ⟨w.heap.size,0,none⟩=some (.int .i64 x1):=coQ n1 0
 have c1:W1.cell? ⟨w.heap.size,1,none⟩=some (.int .i64 x2):=coQ n1 1
 have HX:=hid (And.intro c0 c1)
 have HS:=hid (show ¬ (x1,x2) ∈ l.take 0 from by simp)
 have HB:=hid (Below.refl W1.heap.size W1)
 unfold itV
 clear hN hvx h1 n1 hv c0 c1
 go_enter Tryz.func95,Tryz.ntmps95
 go_wp2_with fail
 go_loopw [5,8] (fun t5 t8 wr=>∃ (i:Nat),i<=N/\t8=.int .i64 (i:Int)/\Hid (Below W1.heap.size W1 wr)/\Hid (¬ (x1,x2) ∈ l.take i)) (fun _ t8 _=>N - (RowKit.intOf t8).toNat)
 case atStart=>exact ⟨0,Nat.zero_le _,rfl,HB,HS⟩
 case round =>
  clear HB HS e1
  obtain ⟨i,hiN,rfl,HB,HS⟩:=hrel
  by_cases hlt:i < N
  ·have j1:(i:Int) < (N:Int):=by omega
   have j0:(0:Int)<=(i:Int):=by omega
   obtain ⟨vb,vf,rfl,hv1⟩:=HVX.out (by omega)
   have hv2:=hv1 i hlt
   obtain ⟨a,ha⟩:∃ a,l[i]?=some a:=⟨_,geQ (by rw [HN.out]; exact hlt)⟩
   obtain ⟨a1,a2⟩:=a
   rw [gdQ,ha] at hv2
   obtain ⟨hv2,hv3⟩:=hv2
   have hv2:W1.cell? ⟨vb,vf + i * 2,none⟩=some (.int .i64 a1):=hv2
   have hv3:W1.cell? ⟨vb,vf + i * 2 + 1,none⟩=some (.int .i64 a2):=hv3
   have HF0:=hid (show ∀ w',Below wr.heap.size wr w'->w'.cell? ⟨vb,vf + i * 2,none⟩=some (.int .i64 a1)/\w'.cell? ⟨vb,vf + i * 2 + 1,none⟩=some (.int .i64 a2) from fun w' hC=>⟨cell_below (HB.out.trans (hC.mono HB.out.size)) hv2,cell_below (HB.out.trans (hC.mono HB.out.size)) hv3⟩)
   have HF1:=hid (show ∀ w',Below wr.heap.size wr w'->w'.cell? ⟨w.heap.size,0,none⟩=some (.int .i64 x1)/\w'.cell? ⟨w.heap.size,1,none⟩=some (.int .i64 x2) from fun w' hC=>⟨cell_below (HB.out.trans (hC.mono HB.out.size)) HX.out.1,cell_below (HB.out.trans (hC.mono HB.out.size)) HX.out.2⟩)
   have HA:=hid ha
   clear ha hv2 hv3 hv1
   go_wp2_with fail
   by_cases h1:x1=a1
   ·subst h1
    by_cases h2:x2=a2
    ·subst h2
     refine wp_region_below (by kernel_rfl) (by kernel_rfl) ?_
     repeat (refine BigFrame.wpQuiet_want (by rfl) (fun K hK=>?_)
             apply Exists.intro
             refine ⟨fun w' hC=>?_,hK _ ?_⟩
             . obtain ⟨f0',g0'⟩:=HF0.out w' hC
               obtain ⟨f1',g1'⟩:=HF1.out w' hC
               unfold Oper.quietAt
               go_simp
               first
                 | with_reducible rfl
                 | done
             clear hK K
             try simp only [Act.put,sjA,sj0,sjS])
     refine wpQuiet_nil ?_
     intro w6 hb6
     have HB6:=hid (HB.out.trans (hb6.mono HB.out.size))
     clear hb6
     have HIN:=hid (ixX_at HA.out HS.out)
     clear HF0 HF1
     go_wp2_with fail
     go_ret
     exact ⟨by rw [HIN.out]; rfl,HBW.out.trans (HB6.out.mono HBW.out.size)⟩
    ·have HAB:¬ (x1,x2)=(x1,a2):=fun h=>h2 (congrArg Prod.snd h)
     refine wp_region_below (by kernel_rfl) (by kernel_rfl) ?_
     repeat (refine BigFrame.wpQuiet_want (by rfl) (fun K hK=>?_)
             apply Exists.intro
             refine ⟨fun w' hC=>?_,hK _ ?_⟩
             . obtain ⟨f0',g0'⟩:=HF0.out w' hC
               obtain ⟨f1',g1'⟩:=HF1.out w' hC
               unfold Oper.quietAt
               go_simp
               first
                 | with_reducible rfl
                 | done
             clear hK K
             try simp only [Act.put,sjA,sj0,sjS])
     refine wpQuiet_nil ?_
     intro w6 hb6
     have HB6:=hid (HB.out.trans (hb6.mono HB.out.size))
     clear hb6
     clear HF0 HF1
     go_wp2_with fail
     refine ⟨⟨i + 1,by omega,rfl,HB6,hid fun h=>?_⟩,?_⟩
     ·rw [List.take_add_one,HA.out] at h
      rcases List.mem_append.1 h with h | h
      ·exact HS.out h
      ·exact HAB (by simpa using h)
     ·show N - ((i:Int) + 1).toNat < N - ((i:Int)).toNat
      omega
   ·have HAB:¬ (x1,x2)=(a1,a2):=fun h=>h1 (congrArg Prod.fst h)
    refine wp_region_below (by kernel_rfl) (by kernel_rfl) ?_
    repeat (refine BigFrame.wpQuiet_want (by rfl) (fun K hK=>?_)
            apply Exists.intro
            refine ⟨fun w' hC=>?_,hK _ ?_⟩
            . obtain ⟨f0',g0'⟩:=HF0.out w' hC
              obtain ⟨f1',g1'⟩:=HF1.out w' hC
              unfold Oper.quietAt
              go_simp
              first
                | with_reducible rfl
                | done
            clear hK K
            try simp only [Act.put,sjA,sj0,sjS])
    refine wpQuiet_nil ?_
    intro w6 hb6
    have HB6:=hid (HB.out.trans (hb6.mono HB.out.size))
    clear hb6
    clear HF0 HF1
    go_wp2_with fail
    refine ⟨⟨i + 1,by omega,rfl,HB6,hid fun h=>?_⟩,?_⟩
    ·rw [List.take_add_one,HA.out] at h
     rcases List.mem_append.1 h with h | h
     ·exact HS.out h
     ·exact HAB (by simpa using h)
    ·show N - ((i:Int) + 1).toNat < N - ((i:Int)).toNat
     omega
  ·have j1:¬ (i:Int) < (N:Int):=by omega
   have HEQ:=hid (show ¬ (x1,x2) ∈ l from by
    have h1:=HS.out
    rw [List.take_of_length_le (by rw [HN.out]; omega)] at h1
    exact h1)
   go_wp2_with fail
   go_ret
   exact ⟨by rw [ixX_off HEQ.out]; rfl,HBW.out.trans (HB.out.mono HBW.out.size)⟩
end Go.Proofs.YticmnfmijdgmbaaGreatDoor
