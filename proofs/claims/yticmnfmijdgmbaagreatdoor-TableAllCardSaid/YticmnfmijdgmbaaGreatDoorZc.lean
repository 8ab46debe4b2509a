import Derived.Test.YticmnfmijdgmbaaGreatDoorXm
set_option linter.all false
set_option maxRecDepth 100000
set_option maxHeartbeats 8000000
namespace Go.Proofs.YticmnfmijdgmbaaGreatDoor
open Go Go.RowKit Go.Lib
open aO (It aP ax)
open aJ (u64)
open Classical in
noncomputable def qK (G:GD) (l:List It) (us:List Nat) (i:Nat):Bool:=decide (i<us.length/\us.getD i 0≠0/\l.getD i (0,0)∈aP G l/\(l.getD i (0,0)).2=((ax G (l.getD i (0,0)).1).length:Int))
noncomputable def doneN (G:GD) (l:List It) (us:List Nat) (i:Nat):List Int:=((List.range i).filter (qK G l us)).map fun i=>(l.getD i (0,0)).1
theorem zU {G:GD}{l:List It}{us:List Nat}{i:Nat}(h:qK G l us i=true):doneN G l us (i+1)=doneN G l us i++[(l.getD i (0,0)).1]:=by
 unfold doneN;rw[List.range_succ,List.filter_append,List.map_append];simp[h]
theorem Lt {G:GD}{l:List It}{us:List Nat}{i:Nat}(h:qK G l us i=false):doneN G l us (i+1)=doneN G l us i:=by
 unfold doneN;rw[List.range_succ,List.filter_append,List.map_append];simp[h]
theorem aU {P:Program}{ops:Array Oper}{rest:List Oper}{o:Oper}{a:Act}{w:World}{B:Nat}{Q:Exit->Act->World->Prop}(hgd:o.guard=none)(s x:Operand)(t e:TypeId)(ho:o.op=.call {callee:=.builtin .append,args:=#[s,x],argTypes:=#[t,t]})
  (z:Value) (sz bytes:Nat) (ht:P.underlying t=some (.slice e)) (hinfo:(P.info? e).map (fun i=>(i.zero,i.size,i.bytes))=some (some z,sz,bytes)) (hz1:z.cells.size=sz) (hby:bytes<=24)
  (v:Value) (n:Nat) (xs:List Value) (hs:a.eval s=v) (hown:aI w B sz v n xs) (g:Nat) (hx:a.eval x=.slice (some ⟨g,0,none⟩) 1 1) (qs:List Value) (hql:qs.length=sz) (hb:∀ j u,qs[j]?=some u->w.cell? ⟨g,j,none⟩=some u) (hq:∀ q∈qs,q.oneCell'=true) (hn:n<=1000000000000) (hB:B<=w.heap.size)
  (h:∀ ao c w',aI w' B sz (.slice ao (n+1) c) (n+1) (xs++qs)->w.grownBy w' v.ownBlock->((Value.slice ao (n+1) c).ownBlock=v.ownBlock\/(Value.slice ao (n+1) c).ownBlock=some w.heap.size)->wpList P ops Q rest (a.put o.dst (.slice ao (n+1) c)) w'):wpList P ops Q (o::rest) a w:=by
 refine wpList_plain hgd fun K' hK'=>?_;exact jH s x t e ho z sz bytes ht hinfo hz1 hby v n xs hs hown g hx qs hql hb hq hn hB (fun ao c w' h1 h2 h3=>hK' _ _ (h ao c w' h1 h2 h3))
theorem vH (G:GD)(l:List It)(us:List Nat)(i:Nat):(doneN G l us i).length<=i:=by
 unfold doneN;rw[List.length_map];exact eX (List.length_filter_le _ _) (by simp)
def DoneP (G:GD)(l:List It)(us:List Nat)(w:World)(e:Ending)(w':World):Prop:=
 ∃ v,e=.returned v/\aj w w'/\aI w' w.heap.size 1 v (doneN G l us l.length).length ((doneN G l us l.length).map fun p=>.int .i64 p)
theorem MW {G:GD}{gv iv av:Value}{w:World}{l:List It}{us:List Nat}(h:fZ w gv G)(hV:aB G=true)(hi:aS w iv l)(hl:l.length<=100000)(hu:yK w av us) :
  Calls Tryz.prog 21 #[gv,.agg #[iv,av]] w (DoneP G l us w):=by
 have HGr:=hid h;have HI:=hid hi;have HV:=hid hV;obtain⟨io,ic,rfl,hil,hix⟩:=hi;obtain⟨ao,ac,rfl,hul,hux⟩:=hu;obtain⟨tv,ov,sv,pv,tf,rv,h⟩:=h;obtain⟨W1,B,hW1,hB,c0,c1,c2,c3,c4,hG,hb,hsz⟩:=gU h;have hgv:=h.eq;subst hgv hB;have e1:=hW1.symm;have n1:W1.heap[w.heap.size]?=some (.cells #[tv,ov,sv,pv,.int .i64 G.start] 27 (0,0)):=by rw[hW1];exact aK _ _
 obtain⟨N,hN⟩:=ai (l.length);obtain⟨M,hM⟩:=ai (us.length);have HN:=hid (And.intro hN hM);obtain⟨W2,e2⟩:=ai (W1.alloc (.cells #[.slice io N ic,.slice ao M ac] 48));have n2:W2.heap[W1.heap.size]?=some (.cells #[.slice io N ic,.slice ao M ac] 48 (0,0)):=dO e2;have h2:aj W1 W2:=dM e2;have f1:=bV (l:=[]) (az.empty w w.heap.size (bJ _)) e1 n1;have f2:=bV f1 e2 n2;have c0:=cell_below h2 c0;have c1:=cell_below h2 c1;have c2:=cell_below h2 c2;have c3:=cell_below h2 c3;have c4:=cell_below h2 c4;have d0:ay W2 W1.heap.size 0 (.slice io N ic):=ak n2 0;have hlN:N<=100000:=by rw[<-hN];exact hl
 have KC:=Ak (HGr.o.below f2.bel) HV.o (HI.o.below f2.bel) hl;rw[hN]at KC hil hix ⊢;rw[hM]at hul hux ⊢;have KC:=hid KC;have HF2:=hid f2;have HIX:=hid hix;have HUX:=hid hux;clear h hG hb hW1 n1 n2 h2 f1 f2 hix hux hN hM hV;go_enter Tryz.func21,Tryz.ntmps21;go_wp2_with fail;refine KC.o.mono ?_;rintro e w3 ⟨g,c,rfl,hrow,hg1,hg2,hb3⟩;clear e2;generalize W1.heap.size=b48 at *;have f3:=HF2.o.add (dY [(g,aP G l)]) hb3 (fun q hq=>by
  obtain rfl:q=(g,aP G l):=by simpa using hq
  exact hrow) (fun b hb=>by
  have hb':b∈[g]:=hb;obtain rfl:b=g:=by simpa using hb'
  exact⟨hg1,hg2⟩)
 have HF:=hid (show az w.heap.size w w3 [ae w.heap.size (.cells #[tv,ov,sv,pv,.int .i64 G.start] 27 (0,0)),ae b48 (.cells #[.slice io N ic,.slice ao M ac] 48 (0,0)),dY [(g,aP G l)],aA w.heap.size 1 (.slice none 0 0) (doneN G l us 0).length ((doneN G l us 0).map fun p=>Value.int .i64 p)]from iw f3);have d0:ay w3 b48 0 (.slice io N ic):=cell_below hb3 d0;clear hrow hg1 hg2 hb3 f3 KC HF2 c0 c1 c2 c3 c4 e1;go_wp2_with fail;clear d0
 go_loopw [6,7,8,16] (fun t6 t7 t8 t16 wr=>∃ (i:Nat) (v:Value),i<=N/\v=t6/\t16=.int .i64 (i:Int)/\Hid (az w.heap.size w wr [ae w.heap.size (.cells #[tv,ov,sv,pv,.int .i64 G.start] 27 (0,0)),ae b48 (.cells #[.slice io N ic,.slice ao M ac] 48 (0,0)),dY [(g,aP G l)],aA w.heap.size 1 v (doneN G l us i).length ((doneN G l us i).map fun p=>Value.int .i64 p)])) (fun _ _ _ t16 _=>N-(RowKit.intOf t16).toNat)
 case atStart=>exact⟨0,_,Nat.zero_le _,rfl,rfl,HF⟩
 case round =>
  clear HF;obtain⟨i,v,hiN,rfl,rfl,HF⟩:=hrel;by_cases hlt:i<N
  ·have j1:(i:Int)<(N:Int):=by omega
   have j0:(0:Int)<=(i:Int):=by omega
   obtain⟨ib,io2,rfl,hi1⟩:=HIX.o (by omega);obtain⟨hx0,hx1⟩:=hi1 i hlt;obtain⟨x,hx⟩:=ai (l.getD i (0,0));rw[hx]at hx0 hx1;have HX:=hid hx;have r0:=cell_below HF.o.bel hx0;have r1:=cell_below HF.o.bel hx1;obtain⟨wa,ea⟩:=ai (wr.alloc (.cells #[.int .i64 0,.int .i64 0] 60));have na:wa.heap[wr.heap.size]?=some (.cells #[.int .i64 0,.int .i64 0] 60 (0,0)):=dO ea;have hfa:=bV HF.o ea na;have vn0:wa.heap[wr.heap.size]?=some (.cells #[.int .i64 0,.int .i64 0] 60 (0,0)):=na;have vc0:ay wa wr.heap.size 0 (.int .i64 0):=ak vn0 0;have vf0:=bY vn0 0;obtain⟨u1,ve0⟩:=ai (wa.setCell ⟨wr.heap.size,0,none⟩ (.int .i64 x.1));have vn1:u1.heap[wr.heap.size]?=some (.cells #[.int .i64 x.1,.int .i64 0] 60 (0,0)):=dK ve0 vn0;have vc1:ay u1 wr.heap.size 1 (.int .i64 0):=ak vn1 1;have vf1:=bY vn1 1;obtain⟨u2,ve1⟩:=ai (u1.setCell ⟨wr.heap.size,1,none⟩ (.int .i64 x.2));have vn2:u2.heap[wr.heap.size]?=some (.cells #[.int .i64 x.1,.int .i64 x.2] 60 (0,0)):=dK ve1 vn1;have HFu:=hid (show az w.heap.size w u2 ([ae w.heap.size (.cells #[tv,ov,sv,pv,.int .i64 G.start] 27 (0,0)),ae b48 (.cells #[.slice (some ⟨ib,io2,none⟩) N ic,.slice ao M ac] 48 (0,0)),dY [(g,aP G l)],aA w.heap.size 1 v (doneN G l us i).length ((doneN G l us i).map fun p=>Value.int .i64 p)]++[ae wr.heap.size (.cells #[.int .i64 x.1,.int .i64 x.2] 60 (0,0))])from by
    have h1:=aT (k:=0) (i:=0) (v:=.int .i64 x.1) hfa rfl;rw[ve0]at h1;have h2:=aT (m:=[ae wr.heap.size (.cells #[.int .i64 x.1,.int .i64 0] 60 (0,0))]) (k:=0) (i:=1) (v:=.int .i64 x.2) h1 rfl;rw[ve1]at h2;exact h2)
   clear hx hx0 hx1 hi1 hfa na vn0 vn1 vn2;go_wp2_with fail;clear vc0 vf0 vc1 vf1 ve0 ve1 ea r0 r1;have nb:=au (l:=[]) (m:=[ae w.heap.size (.cells #[tv,ov,sv,pv,.int .i64 G.start] 27 (0,0)),ae b48 (.cells #[.slice (some ⟨ib,io2,none⟩) N ic,.slice ao M ac] 48 (0,0)),dY [(g,aP G l)],aA w.heap.size 1 v (doneN G l us i).length ((doneN G l us i).map fun p=>Value.int .i64 p)]) (aV HFu.o) (k:=0) rfl;have n4:=au (l:=[]) (m:=[ae w.heap.size (.cells #[tv,ov,sv,pv,.int .i64 G.start] 27 (0,0)),ae b48 (.cells #[.slice (some ⟨ib,io2,none⟩) N ic,.slice ao M ac] 48 (0,0)),dY [(g,aP G l)],aA w.heap.size 1 v (doneN G l us i).length ((doneN G l us i).map fun p=>Value.int .i64 p)]) (aV HFu.o) (k:=1) rfl;have nf:=au (l:=[]) (m:=[ae w.heap.size (.cells #[tv,ov,sv,pv,.int .i64 G.start] 27 (0,0)),ae b48 (.cells #[.slice (some ⟨ib,io2,none⟩) N ic,.slice ao M ac] 48 (0,0)),dY [(g,aP G l)],aA w.heap.size 1 v (doneN G l us i).length ((doneN G l us i).map fun p=>Value.int .i64 p)]) (aV HFu.o) (k:=2) rfl;have nx:=au HFu.o (k:=0) rfl;have F0:=hid (show ∀ w',aj u2 w'->ay w' b48 1 (.slice ao M ac)from fun w' hC=>cell_below hC (ak n4 1));have F1:=hid (show ∀ w',aj u2 w'->ay w' wr.heap.size 0 (.int .i64 x.1)from fun w' hC=>cell_below hC (ak nx 0));have F2:=hid (show ∀ w',aj u2 w'->ay w' wr.heap.size 1 (.int .i64 x.2)from fun w' hC=>cell_below hC (ak nx 1));have F3:=hid (show ∀ w',aj u2 w'->ay w' w.heap.size 0 tv from fun w' hC=>cell_below hC (ak nb 0));have F4:=hid (show ∀ w',aj u2 w'->ay w' w.heap.size 1 ov from fun w' hC=>cell_below hC (ak nb 1));have F5:=hid (show ∀ w',aj u2 w'->ay w' w.heap.size 2 sv from fun w' hC=>cell_below hC (ak nb 2));have F6:=hid (show ∀ w',aj u2 w'->ay w' w.heap.size 3 pv from fun w' hC=>cell_below hC (ak nb 3));have F7:=hid (show ∀ w',aj u2 w'->ay w' w.heap.size 4 (.int .i64 G.start)from fun w' hC=>cell_below hC (ak nb 4));have HNF:=hid nf;have HNO:=hid (show qK G l us i=false->∀ w6,aj u2 w6->az w.heap.size w w6 [ae w.heap.size (.cells #[tv,ov,sv,pv,.int .i64 G.start] 27 (0,0)),ae b48 (.cells #[.slice (some ⟨ib,io2,none⟩) N ic,.slice ao M ac] 48 (0,0)),dY [(g,aP G l)],aA w.heap.size 1 v (doneN G l us (i+1)).length ((doneN G l us (i+1)).map fun p=>Value.int .i64 p)]from fun hd w6 hb6=>by
    rw[Lt hd];exact(aV (m:=[ae wr.heap.size (.cells #[.int .i64 x.1,.int .i64 x.2] 60 (0,0))]) HFu.o).below hb6)
   clear nb n4 nf nx;by_cases hiM:i<M
   case neg =>
    have hm:¬ (i:Int)<(M:Int):=(by omega);have HD:=hid (show qK G l us i=false from dA fun h=>hiM (by rw[<-HN.o.2];exact h.1));refine ah (by kernel_rfl) (by kernel_rfl) ?_;iterate 27
     first
     | with_reducible refine BigFrame.wpQuiet_skip (by with_unfolding_all rfl) ?_
     | with_reducible refine BigFrame.wpQuiet_want (by kernel_rfl) (fun K hK=>?_)
       apply Exists.intro;refine⟨fun w' hC=>?_,hK _ ?_⟩
       ·have f0':=F0.o w' hC;have f1':=F1.o w' hC;have f2':=F2.o w' hC;have f3':=F3.o w' hC;have f4':=F4.o w' hC;have f5':=F5.o w' hC;have f6':=F6.o w' hC;have f7':=F7.o w' hC;unfold Oper.quietAt;go_simp
        first | with_reducible rfl | done
       clear hK K
     try simp only[Act.put,bP,bQ,bK]
    refine wpQuiet_nil ?_;intro w6 hb6;have HF6:=hid (HNO.o HD.o w6 hb6);clear hb6;go_wp2_with fail;refine⟨⟨i+1,_,by omega,rfl,rfl,HF6⟩,?_⟩;show N-((i:Int)+1).toNat<N-((i:Int)).toNat;omega
   have hm:(i:Int)<(M:Int):=by omega
   obtain⟨ub,uf,rfl,hu1⟩:=HUX.o (by omega);have hu2:=cell_below HFu.o.bel (hu1 i hiM);obtain⟨S,hS⟩:=ai (us.getD i 0);rw[hS]at hu2;have F8:=hid (show ∀ w',aj u2 w'->ay w' ub (uf+i) (.int .u64 (S:Int))from fun w' hC=>cell_below hC hu2);clear hu1 hu2;by_cases hS0:S=0
   case pos =>
    subst hS0;have HD:=hid (show qK G l us i=false from dA fun h=>h.2.1 hS);refine ah (by kernel_rfl) (by kernel_rfl) ?_;iterate 27
     first
     | with_reducible refine BigFrame.wpQuiet_skip (by with_unfolding_all rfl) ?_
     | with_reducible refine BigFrame.wpQuiet_want (by kernel_rfl) (fun K hK=>?_)
       apply Exists.intro;refine⟨fun w' hC=>?_,hK _ ?_⟩
       ·have f0':=F0.o w' hC;have f1':=F1.o w' hC;have f2':=F2.o w' hC;have f3':=F3.o w' hC;have f4':=F4.o w' hC;have f5':=F5.o w' hC;have f6':=F6.o w' hC;have f7':=F7.o w' hC;have f8':=F8.o w' hC;unfold Oper.quietAt;go_simp
        first | with_reducible rfl | done
       clear hK K
     try simp only[Act.put,bP,bQ,bK]
    refine wpQuiet_nil ?_;intro w6 hb6;have HF6:=hid (HNO.o HD.o w6 hb6);clear hb6;go_wp2_with fail;refine⟨⟨i+1,_,by omega,rfl,rfl,HF6⟩,?_⟩;show N-((i:Int)+1).toNat<N-((i:Int)).toNat;omega
   have hS1:¬ (S:Int)=0:=by omega
   have hS2:((S:Int) != 0)=true:=bne_iff_ne.2 hS1;have hLl:(aP G l).length<=1573:=by
    have:=aO.kP G l;rw[mJ HV.o]at this;exact this
   have HIT:=hid (show ∀ w',aj u2 w'->aS w' (.slice (some ⟨g,0,none⟩) (aP G l).length c) (aP G l)from fun w' hC=>(eQ (HNF.o (g,aP G l) (by simp)) (by show(aP G l).length<=_;omega)).below hC);by_cases hin:x∈aP G l
   case neg =>
    have HD:=hid (show qK G l us i=false from dA fun h=>hin (by rw[<-HX.o];exact h.2.2.1));have KI:=hid (show ∀ w',aj u2 w'->Calls Tryz.prog 54 #[.slice (some ⟨g,0,none⟩) (aP G l).length c,.agg #[.int .i64 x.1,.int .i64 x.2]] w' fun e w''=>e=.returned (.bool false)/\aj w' w'' from fun w' hC=>by
     have:=uw (HIT.o w' hC) x (by omega);rw[dA hin]at this;exact this)
    clear hin;refine ah (by kernel_rfl) (by kernel_rfl) ?_;iterate 27
     first
     | with_reducible refine BigFrame.wpQuiet_skip (by with_unfolding_all rfl) ?_
     | with_reducible refine BigFrame.wpQuiet_want (by kernel_rfl) (fun K hK=>?_)
       apply Exists.intro;refine⟨fun w' hC=>?_,hK _ ?_⟩
       ·have f0':=F0.o w' hC;have f1':=F1.o w' hC;have f2':=F2.o w' hC;have f3':=F3.o w' hC;have f4':=F4.o w' hC;have f5':=F5.o w' hC;have f6':=F6.o w' hC;have f7':=F7.o w' hC;have f8':=F8.o w' hC;unfold Oper.quietAt;go_simp
        first | with_reducible rfl | with_reducible exact bD hC (bJ _) (KI.o w' hC)
       clear hK K
     try simp only[Act.put,bP,bQ,bK]
    refine wpQuiet_nil ?_;intro w6 hb6;have HF6:=hid (HNO.o HD.o w6 hb6);clear hb6;go_wp2_with fail;refine⟨⟨i+1,_,by omega,rfl,rfl,HF6⟩,?_⟩;show N-((i:Int)+1).toNat<N-((i:Int)).toNat;omega
   have KI:=hid (show ∀ w',aj u2 w'->Calls Tryz.prog 54 #[.slice (some ⟨g,0,none⟩) (aP G l).length c,.agg #[.int .i64 x.1,.int .i64 x.2]] w' fun e w''=>e=.returned (.bool true)/\aj w' w'' from fun w' hC=>by
    have:=uw (HIT.o w' hC) x (by omega);rw[eP hin]at this;exact this)
   have hth:=aO.bW.1 (((aO.eY G l).2 x).1 hin).there;obtain⟨ln,hln⟩:=ai ((ax G x.1).length);have KL:=hid (show ∀ w',aj u2 w'->Calls Tryz.prog 55 #[.agg #[tv,ov,sv,pv,.int .i64 G.start],.int .i64 x.1] w' fun e w''=>e=.returned (.int .i64 (ln:Int))/\aj w' w'' from fun w' hC=>by
    rw[<-hln];exact J7 (HGr.o.below (HFu.o.bel.trans (hC.mono HFu.o.bel.size))) x.1 hth.1 hth.2.1)
   have HLN:=hid hln;have HIN:=hid hin;clear hth hln hin;by_cases hd:x.2=(ln:Int)
   case neg =>
    have HD:=hid (show qK G l us i=false from dA fun h=>hd (by
     have:=h.2.2.2;rw[HX.o,HLN.o]at this;exact this))
    have hd2:(x.2 == (ln:Int))=false:=beq_eq_false_iff_ne.2 hd;refine ah (by kernel_rfl) (by kernel_rfl) ?_;iterate 27
     with_reducible refine BigFrame.wpQuiet_want (by kernel_rfl) (fun K hK=>?_)
     apply Exists.intro;refine⟨fun w' hC=>?_,hK _ ?_⟩
     ·have f0':=F0.o w' hC;have f1':=F1.o w' hC;have f2':=F2.o w' hC;have f3':=F3.o w' hC;have f4':=F4.o w' hC;have f5':=F5.o w' hC;have f6':=F6.o w' hC;have f7':=F7.o w' hC;have f8':=F8.o w' hC;unfold Oper.quietAt;go_simp
      first | with_reducible rfl | with_reducible exact bD hC (bJ _) (KI.o w' hC) | with_reducible exact bD hC (bJ _) (KL.o w' hC)
     clear hK K;try simp only[Act.put,bP,bQ,bK]
    refine wpQuiet_nil ?_;intro w6 hb6;have HF6:=hid (HNO.o HD.o w6 hb6);clear hb6;go_wp2_with fail;refine⟨⟨i+1,_,by omega,rfl,rfl,HF6⟩,?_⟩;show N-((i:Int)+1).toNat<N-((i:Int)).toNat;omega
   have hd2:(x.2 == (ln:Int))=true:=by rw[hd];exact beq_self_eq_true _
   have HD:=hid (show qK G l us i=true from eP ⟨by rw[HN.o.2];exact hiM,by rw[hS];exact hS0,by rw[HX.o];exact HIN.o,by rw[HX.o,HLN.o];exact hd⟩);clear hd;refine ah (by kernel_rfl) (by kernel_rfl) ?_;iterate 27
    with_reducible refine BigFrame.wpQuiet_want (by kernel_rfl) (fun K hK=>?_)
    apply Exists.intro;refine⟨fun w' hC=>?_,hK _ ?_⟩
    ·have f0':=F0.o w' hC;have f1':=F1.o w' hC;have f2':=F2.o w' hC;have f3':=F3.o w' hC;have f4':=F4.o w' hC;have f5':=F5.o w' hC;have f6':=F6.o w' hC;have f7':=F7.o w' hC;have f8':=F8.o w' hC;unfold Oper.quietAt;go_simp
     first | with_reducible rfl | with_reducible exact bD hC (bJ _) (KI.o w' hC) | with_reducible exact bD hC (bJ _) (KL.o w' hC)
    clear hK K;try simp only[Act.put,bP,bQ,bK]
   refine wpQuiet_nil ?_;intro w6 hb6;have HF6:=hid ((aV (m:=[ae wr.heap.size (.cells #[.int .i64 x.1,.int .i64 x.2] 60 (0,0))]) HFu.o).below hb6);have x0:=F1.o w6 hb6;obtain⟨vo,vc,rfl⟩:=(show aI w6 w.heap.size 1 v (doneN G l us i).length _ from HF6.o.ok 3 _ rfl).shape;obtain⟨wq,eq⟩:=ai (w6.alloc (.cells #[.int .i64 x.1] 3));have nq:wq.heap[w6.heap.size]?=some (.cells #[.int .i64 x.1] 3 (0,0)):=dO eq;have HFq:=hid (HF6.o.below (show aj w6 wq by exact dM eq));have HCQ:=hid (show ∀ i u,[Value.int .i64 x.1][i]?=some u->wq.cell? ⟨w6.heap.size,i,none⟩=some u from fun i u hi=>by
    rw[ak nq,<-hi,<-List.getElem?_toArray])
   have HBq:=hid (show w.heap.size<=wq.heap.size from eX HFq.o.le HFq.o.bel.size);have HOW:=hid (show aI wq w.heap.size 1 (.slice vo (doneN G l us i).length vc) (doneN G l us i).length ((doneN G l us i).map fun p=>Value.int .i64 p)from HFq.o.ok 3 _ rfl);have hdl:=vH G l us i;have HDL:=hid (show(doneN G l us i).length<=1000000000000 from by omega);clear hb6 nq hdl;go_wp2_with (refine aU rfl (.tmp 48) (.tmp 51) 43 3 rfl (.int .i64 0) 1 8 Tryz.underlying43 info3 rfl (by decide) (.slice vo (doneN G l us i).length vc) (doneN G l us i).length ((doneN G l us i).map fun p=>Value.int .i64 p) rfl HOW.o w6.heap.size rfl [.int .i64 x.1] rfl HCQ.o (fun q hq=>by obtain rfl:q=.int .i64 x.1:=(by simpa using hq);rfl) HDL.o HBq.o ?_);intro ao2 c8 w8 hown hg8 hat;have h8:=HFq.o.bU 3 rfl hown hg8 hat;have e8:(doneN G l us i).length+1=(doneN G l us (i+1)).length:=by rw[zU HD.o,List.length_append];rfl
   have e9:(doneN G l us i).map (fun p=>Value.int .i64 p)++[.int .i64 x.1]=(doneN G l us (i+1)).map fun p=>Value.int .i64 p:=by rw[zU HD.o,List.map_append,HX.o];rfl
   rw[e8,e9]at h8;rw[e8];have HF8:=hid h8;clear h8 hown hg8 hat e8 e9 eq x0;go_wp2_with fail;refine⟨⟨i+1,_,by omega,rfl,rfl,HF8⟩,?_⟩;show N-((i:Int)+1).toNat<N-((i:Int)).toNat;omega
  ·have j1:¬ (i:Int)<(N:Int):=by omega
   obtain rfl:i=N:=by omega
   have HOW:=hid (show aI wr w.heap.size 1 _ _ _ from HF.o.ok 3 _ rfl);have HBE:=hid HF.o.bel;clear HF;go_wp2_with fail;go_ret;refine⟨_,rfl,HBE.o,?_⟩;rw[HN.o.1];exact HOW.o
open aO (It)
open aJ (u64 gu)
namespace wQ
def dC (l:List It):List Value:=l.flatMap fun x=>[.int .i64 x.1,.int .i64 x.2]
theorem kM (a b:List It):dC (a++b)=dC a++dC b:=by unfold dC;exact List.flatMap_append
theorem zX (l:List It):(dC l).length=l.length*2:=by
 unfold dC;induction l with
 | nil=>rfl
 | cons x l ih=>rw[List.flatMap_cons,List.length_append,ih,List.length_cons];show 2+l.length*2=(l.length+1)*2;omega
def tJ (w:World)(v:Value)(ps:List (Int×Nat)):Prop:=eU v ps.length (fun i b off=>w.cell? ⟨b,off+i*2,none⟩=some (.int .i64 (ps.getD i (0,0)).1)/\w.cell? ⟨b,off+i*2+1,none⟩=some (u64 (ps.getD i (0,0)).2))
theorem tJ.below {w w':World}{v:Value}{ps:List (Int×Nat)}(h:tJ w v ps)(hb:aj w w'):tJ w' v ps:=eU.mono h fun _ _ _ ⟨h1,h2⟩=>⟨cell_below hb h1,cell_below hb h2⟩
def one1 (z:Int)(p:Int×Nat):List It:=if gu p.2 z=true then(if p.1<0 then [(3,0)]else [(2,p.1)])else []
def sU (G:GD)(nx:List (List Int))(at_:Int)(k:Nat):List It:=if k=G.terms.length then []else if 0<=ng G nx at_ (k:Int)then [(1,ng G nx at_ (k:Int))]else []
def dX (l0:List It)(z:Int)(ps:List (Int×Nat))(i:Nat):List It:=l0++(ps.take i).flatMap (one1 z)
def jU (G:GD)(nx:List (List Int))(at_:Int)(k:Nat)(ps:List (Int×Nat)):List It:=
 sU G nx at_ k++ps.flatMap (one1 (if k=G.terms.length then 63 else(k:Int)))
theorem BD (l0:List It)(z:Int)(ps:List (Int×Nat)):dX l0 z ps 0=l0:=by unfold dX;simp
theorem BG {l0:List It}{z:Int}{ps:List (Int×Nat)}{i:Nat}(h:i<ps.length):dX l0 z ps (i+1)=dX l0 z ps i++one1 z (ps.getD i (0,0)):=by
 unfold dX;rw[List.take_add_one,dH h,List.flatMap_append,List.append_assoc,dL,dH h];simp
theorem JQ (z:Int)(p:Int×Nat):(one1 z p).length<=1:=by
 unfold one1;split
 ·split<;>exact bJ _
 ·exact Nat.zero_le _
theorem Ff (l0:List It)(z:Int)(ps:List (Int×Nat))(i:Nat):(dX l0 z ps i).length<=l0.length+ps.length:=by
 unfold dX;rw[List.length_append];have h1:∀ l:List (Int×Nat),(l.flatMap (one1 z)).length<=l.length:=fun l=>by
  induction l with
  | nil=>exact bJ _
  | cons x l ih=>rw[List.flatMap_cons,List.length_append,List.length_cons];have:=JQ z x;omega
 have:=h1 (ps.take i);have h2:(ps.take i).length<=ps.length:=by rw[List.length_take];omega
 omega
end wQ
theorem lU {B:Nat}{W w:World}{l:List Item}(h:az B W w l):az B W w (l++[aA B 2 (.slice none 0 0) 0 []]):=
 h.add (aA B 2 (.slice none 0 0) 0 []) (eH _ _) (aI.nil _ _ _) (fun c hc=>by
  have:c∈(Value.slice none 0 0).ownBlock.toList:=hc;simp[Value.ownBlock]at this)
def GG (x:It):List It->Nat
 | []=>0
 | a::l=>if a=x then 0 else GG x l+1
theorem Kv {x:It} : ∀ {l:List It}{i:Nat},l[i]?=some x->¬ x∈l.take i->GG x l=i
 | [],i,h,_=>by simp at h
 | a::l,0,h,_=>by
  have:a=x:=by simpa using h
  rw[GG,if_pos this]
 | a::l,i+1,h,hn=>by
  rw[List.take_succ_cons]at hn;have h1:¬ a=x:=fun e=>hn (by rw[e];exact List.mem_cons_self);rw[GG,if_neg h1,Kv (l:=l) (i:=i) (by simpa using h) fun hm=>hn (List.mem_cons_of_mem _ hm)]
theorem ry {x:It} : ∀ {l:List It},x∈l->l[GG x l]?=some x
 | [],h=>by cases h
 | a::l,h=>by
  by_cases e:a=x
  ·rw[GG,if_pos e,e];rfl
  ·rw[GG,if_neg e,List.getElem?_cons_succ];exact ry (by
    rcases List.mem_cons.1 h with h | h
    ·exact absurd h.symm e
    ·exact h)
def ixX (x:It)(l:List It):Int:=if x∈l then(GG x l:Int)else -1
theorem ixX_at {x:It}{l:List It}{i:Nat}(h:l[i]?=some x)(hn:¬ x∈l.take i):ixX x l=(i:Int):=by
 unfold ixX;rw[if_pos (List.mem_of_getElem? h),Kv h hn]
theorem ixX_off {x:It}{l:List It}(h:¬ x∈l):ixX x l=-1:=by
 unfold ixX;rw[if_neg h]
theorem DF {w:World}{v:Value}{l:List It}(hv:aS w v l)(x:It)(hl:l.length<=1000000) :
  Calls Tryz.prog 95 #[v,mg x] w fun e w'=>e=.returned (.int .i64 (ixX x l))/\aj w w':=by
 obtain⟨x1,x2⟩:=x;obtain⟨W1,e1⟩:=ai (w.alloc (.cells #[.int .i64 x1,.int .i64 x2] 60));have n1:W1.heap[w.heap.size]?=some (.cells #[.int .i64 x1,.int .i64 x2] 60 (0,0)):=dO e1;have h1:aj w W1:=dM e1;have HBW:=hid h1;obtain⟨vo,vc,rfl,hvl,hvx⟩:=hv.below h1;obtain⟨N,hN⟩:=ai (l.length);rw[hN]at hvl hvx hl ⊢;have HN:=hid hN;have HVX:=hid hvx;have c0:ay W1 w.heap.size 0 (.int .i64 x1):=ak n1 0;have c1:ay W1 w.heap.size 1 (.int .i64 x2):=ak n1 1;have HX:=hid (And.intro c0 c1);have HS:=hid (show ¬ (x1,x2)∈l.take 0 from by simp);have HB:=hid (eH W1.heap.size W1);unfold mg;clear hN hvx h1 n1 hv c0 c1;go_enter Tryz.func95,Tryz.ntmps95;go_wp2_with fail
 go_loopw [5,8] (fun t5 t8 wr=>∃ (i:Nat),i<=N/\t8=.int .i64 (i:Int)/\Hid (aj W1 wr)/\Hid (¬ (x1,x2)∈l.take i)) (fun _ t8 _=>N-(RowKit.intOf t8).toNat)
 case atStart=>exact⟨0,Nat.zero_le _,rfl,HB,HS⟩
 case round =>
  clear HB HS e1;obtain⟨i,hiN,rfl,HB,HS⟩:=hrel;by_cases hlt:i<N
  ·have j1:(i:Int)<(N:Int):=by omega
   have j0:(0:Int)<=(i:Int):=by omega
   obtain⟨vb,vf,rfl,hv1⟩:=HVX.o (by omega);have hv2:=hv1 i hlt;obtain⟨a,ha⟩:∃ a,l[i]?=some a:=⟨_,dH (by rw[HN.o];exact hlt)⟩;obtain⟨a1,a2⟩:=a;rw[dL,ha]at hv2;obtain⟨hv2,hv3⟩:=hv2;have hv2:ay W1 vb (vf+i*2) (.int .i64 a1):=hv2;have hv3:ay W1 vb (vf+i*2+1) (.int .i64 a2):=hv3;have HF0:=hid (show ∀ w',aj wr w'->ay w' vb (vf+i*2) (.int .i64 a1)/\ay w' vb (vf+i*2+1) (.int .i64 a2)from fun w' hC=>⟨cell_below (HB.o.trans (hC.mono HB.o.size)) hv2,cell_below (HB.o.trans (hC.mono HB.o.size)) hv3⟩);have HF1:=hid (show ∀ w',aj wr w'->ay w' w.heap.size 0 (.int .i64 x1)/\ay w' w.heap.size 1 (.int .i64 x2)from fun w' hC=>⟨cell_below (HB.o.trans (hC.mono HB.o.size)) HX.o.1,cell_below (HB.o.trans (hC.mono HB.o.size)) HX.o.2⟩);have HA:=hid ha;clear ha hv2 hv3 hv1;go_wp2_with fail;by_cases h1:x1=a1
   ·subst h1;by_cases h2:x2=a2
    ·subst h2;refine ah (by kernel_rfl) (by kernel_rfl) ?_
     repeat (refine BigFrame.wpQuiet_want (by rfl) (fun K hK=>?_)
             apply Exists.intro;refine⟨fun w' hC=>?_,hK _ ?_⟩
             . obtain⟨f0',g0'⟩:=HF0.o w' hC
               obtain⟨f1',g1'⟩:=HF1.o w' hC;unfold Oper.quietAt;go_simp
               first
                 | with_reducible rfl
                 | done
             clear hK K;try simp only[Act.put,bP,bQ,bK])
     refine wpQuiet_nil ?_;intro w6 hb6;have HB6:=fJ HB hb6;clear hb6;have HIN:=hid (ixX_at HA.o HS.o);clear HF0 HF1;go_wp2_with fail;go_ret;exact⟨by rw[HIN.o];rfl,HBW.o.trans (HB6.o.mono HBW.o.size)⟩
    ·have HAB:¬ (x1,x2)=(x1,a2):=fun h=>h2 (congrArg Prod.snd h);refine ah (by kernel_rfl) (by kernel_rfl) ?_
     repeat (refine BigFrame.wpQuiet_want (by rfl) (fun K hK=>?_)
             apply Exists.intro;refine⟨fun w' hC=>?_,hK _ ?_⟩
             . obtain⟨f0',g0'⟩:=HF0.o w' hC
               obtain⟨f1',g1'⟩:=HF1.o w' hC;unfold Oper.quietAt;go_simp
               first
                 | with_reducible rfl
                 | done
             clear hK K;try simp only[Act.put,bP,bQ,bK])
     refine wpQuiet_nil ?_;intro w6 hb6;have HB6:=fJ HB hb6;clear hb6;clear HF0 HF1;go_wp2_with fail;refine⟨⟨i+1,by omega,rfl,HB6,hid fun h=>?_⟩,?_⟩
     ·rw[List.take_add_one,HA.o]at h;rcases List.mem_append.1 h with h | h
      ·exact HS.o h
      ·exact HAB (by simpa using h)
     ·show N-((i:Int)+1).toNat<N-((i:Int)).toNat;omega
   ·have HAB:¬ (x1,x2)=(a1,a2):=fun h=>h1 (congrArg Prod.fst h);refine ah (by kernel_rfl) (by kernel_rfl) ?_
    repeat (refine BigFrame.wpQuiet_want (by rfl) (fun K hK=>?_)
            apply Exists.intro;refine⟨fun w' hC=>?_,hK _ ?_⟩
            . obtain⟨f0',g0'⟩:=HF0.o w' hC
              obtain⟨f1',g1'⟩:=HF1.o w' hC;unfold Oper.quietAt;go_simp
              first
                | with_reducible rfl
                | done
            clear hK K;try simp only[Act.put,bP,bQ,bK])
    refine wpQuiet_nil ?_;intro w6 hb6;have HB6:=fJ HB hb6;clear hb6;clear HF0 HF1;go_wp2_with fail;refine⟨⟨i+1,by omega,rfl,HB6,hid fun h=>?_⟩,?_⟩
    ·rw[List.take_add_one,HA.o]at h;rcases List.mem_append.1 h with h | h
     ·exact HS.o h
     ·exact HAB (by simpa using h)
    ·show N-((i:Int)+1).toNat<N-((i:Int)).toNat;omega
  ·have j1:¬ (i:Int)<(N:Int):=by omega
   have HEQ:=hid (show ¬ (x1,x2)∈l from by
    have h1:=HS.o;rw[List.take_of_length_le (by rw[HN.o];omega)]at h1;exact h1)
   go_wp2_with fail;go_ret;exact⟨by rw[ixX_off HEQ.o];rfl,HBW.o.trans (HB.o.mono HBW.o.size)⟩
end Go.Proofs.YticmnfmijdgmbaaGreatDoor
