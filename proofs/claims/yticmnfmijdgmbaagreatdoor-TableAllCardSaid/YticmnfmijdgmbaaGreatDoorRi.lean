import Derived.Test.YticmnfmijdgmbaaGreatDoorRg
set_option linter.all false
set_option maxRecDepth 100000
set_option maxHeartbeats 16000000
namespace Go.Proofs.YticmnfmijdgmbaaGreatDoor
open Go Go.RowKit Go.Lib
open aO (It Less iQ bu aY bg ax fD FQ Hf lT)
theorem own_base {w:World}{B B' n sz:Nat}{e:TypeId}{v:Value}{xs:List Value}(h:w.ownsRow B e sz v n xs)(hb:B'<=B):w.ownsRow B' e sz v n xs:=by
 refine⟨h.1,?_⟩;rcases h.2 with hn | ⟨g,cap,cur,h1,hB,rest⟩
 ·exact .inl hn
 ·exact .inr ⟨g,cap,cur,h1,eX hb hB,rest⟩
theorem Iq (w:World)(p:Int){wx wa wb:World}(ex:w.alloc (.cells #[.int .i64 0,.int .i64 0] 110)=wx)(ea:wx.setCell ⟨w.heap.size,0,none⟩ (.int .i64 p)=wa)(eb:wa.setCell ⟨w.heap.size,1,none⟩ (.int .i64 0)=wb) :
  wx.heap[w.heap.size]?=some (.cells #[.int .i64 0,.int .i64 0] 110 (0,0))/\wa.heap[w.heap.size]?=some (.cells #[.int .i64 p,.int .i64 0] 110 (0,0))/\wb.heap[w.heap.size]?=some (.cells #[.int .i64 p,.int .i64 0] 110 (0,0))/\aj w wb:=by
 have nx:wx.heap[w.heap.size]?=some (.cells #[.int .i64 0,.int .i64 0] 110 (0,0)):=dO ex;have na:wa.heap[w.heap.size]?=some (.cells #[.int .i64 p,.int .i64 0] 110 (0,0)):=dK ea nx;refine⟨nx,na,by rw[<-eb];exact heap_setCell_same _ _ 1 _ 110 _ na,?_⟩;rw[<-eb,<-ea,<-ex];exact((((eH _ _).alloc (bJ _) _).setCell (bJ _) _).setCell (bJ _) _)
theorem yO {G:GD}{gv v:Value}{w:World}{l:List It}(h:fZ w gv G)(hi:aS w v l)(hl:l.length<=100000) :
  Calls Tryz.prog 47 #[gv,v] w (RowP (fD G l) w):=by
 have HGr:=hid h;obtain⟨vo,vc,rfl,hvn⟩:=hi.len;obtain⟨n,hln⟩:=ai (l.length);have HLN:=hid hln;obtain⟨tv,ov,sv,pv,tf,rv,h⟩:=h;obtain⟨W1,B,hW1,hB,c0,c1,c2,c3,c4,hG,hb,hsz⟩:=gU h;have hgv:=h.eq;subst hgv hB;have e1:=hW1.symm;obtain⟨pa,pc,rfl,hpn,hpc⟩:=hG.prods;obtain⟨np,hnp⟩:=ai (G.prods.length);have HNP:=hid hnp;have HPC:=hid hpc;have HL:=hid (hi.below hb);have HB1:=hid hb;rw[hln]at HL hvn hl ⊢;rw[hnp]at c3 HGr e1 hpn ⊢;have HC:=hid (And.intro c0 (And.intro c1 (And.intro c2 (And.intro c3 c4))));have HWG:=hid (show ∀ w',aj W1 w'->fZ w' (.agg #[tv,ov,sv,.slice pa np pc,.int .i64 G.start]) G from fun w' hC=>HGr.o.below (hb.trans (hC.mono hsz)));clear h hG hW1 hb hi hln hnp hpc c0 c1 c2 c3 c4;go_enter Tryz.func47,Tryz.ntmps47;go_wp2_with fail;clear e1
 go_loopw [5,6] (fun t5 t6 wr=>∃ (i:Nat) (O:List It),i<=n/\t6=.int .i64 (i:Int)/\Hid (FQ G l O i)/\Hid (wr.ownsRow W1.heap.size 110 2 t5 O.length (icells O))/\Hid (aj W1 wr)) (fun _ t6 _=>n-(RowKit.intOf t6).toNat)
 case atStart=>exact⟨0,[],Nat.zero_le _,rfl,hid (FQ.start G l),hid (World.ownsRow_nil _ _ _ _),hid (eH _ _)⟩
 case round =>
  obtain⟨i,O,hi,rfl,HX,HO,HB⟩:=hrel;have hszr:=HB.o.size;have hOl:O.length<=1573:=aO.Lc HX.o.nd fun x hx=>(HX.o.inn x hx).1;obtain⟨oo,oc,rfl⟩:=bF HO.o;by_cases hlt:i<n
  ·have t1:(i:Int)<(n:Int):=by omega
   have t2:(0:Int)<=(i:Int):=by omega
   obtain⟨x,hx⟩:∃ x,l[i]?=some x:=⟨_,dH (by rw[HLN.o];exact hlt)⟩;have HXX:=hid hx;obtain⟨lb,lo,rfl,q0,q1⟩:=HL.o.at_ hx;have HQ0:Hid (∀ w',aj wr w'->w'.cell? ⟨lb,lo+i*2,none⟩=some (.int .i64 x.1)):=hid fun w' hC=>cell_below hC (cell_below HB.o q0);have HQ1:Hid (∀ w',aj wr w'->w'.cell? ⟨lb,lo+i*2+1,none⟩=some (.int .i64 x.2)):=hid fun w' hC=>cell_below hC (cell_below HB.o q1);have HQ2:Hid (∀ w',aj wr w'->w'.cell? ⟨w.heap.size,0,none⟩=some (tv)):=hid fun w' hC=>cell_below hC (cell_below HB.o HC.o.1);have HQ3:Hid (∀ w',aj wr w'->w'.cell? ⟨w.heap.size,1,none⟩=some (ov)):=hid fun w' hC=>cell_below hC (cell_below HB.o HC.o.2.1);have HQ4:Hid (∀ w',aj wr w'->w'.cell? ⟨w.heap.size,2,none⟩=some (sv)):=hid fun w' hC=>cell_below hC (cell_below HB.o HC.o.2.2.1);have HQ5:Hid (∀ w',aj wr w'->w'.cell? ⟨w.heap.size,3,none⟩=some (.slice pa np pc)):=hid fun w' hC=>cell_below hC (cell_below HB.o HC.o.2.2.2.1);have HQ6:Hid (∀ w',aj wr w'->w'.cell? ⟨w.heap.size,4,none⟩=some (.int .i64 G.start)):=hid fun w' hC=>cell_below hC (cell_below HB.o HC.o.2.2.2.2);obtain⟨iv,hiv⟩:=ai (ww G x);have hKI:∀ w',aj wr w'->Calls Tryz.prog 57 #[.agg #[tv,ov,sv,.slice pa np pc,.int .i64 G.start],.agg #[.int .i64 x.1,.int .i64 x.2]] w' fun e w''=>e=.returned (.bool iv)/\aj w' w'':=fun w' hC=>by
    have h2:=Hl (HWG.o w' (HB.o.trans (hC.mono hszr))) x;rw[hiv]at h2;exact h2
   have KI:=hid hKI;obtain⟨hb,hhb⟩:=ai (decide (x∈O));have hKH:∀ w',aj wr w'->Calls Tryz.prog 90 #[.slice oo O.length oc,.agg #[.int .i64 x.1,.int .i64 x.2]] w' fun e w''=>e=.returned (.bool hb)/\aj w' w'':=fun w' hC=>by
    have h2:=Bv (jl (own_below HO.o hC) (by omega)) x;rw[hhb]at h2;exact h2
   have KH:=hid hKH;clear hKI hKH hx;cases iv
   ·have HX2:=hid (HX.o.skip HXX.o (fun e=>by rw[hiv]at e;cases e));clear hiv hhb q0 q1;go_wp2_with fail;refine ah (by kernel_rfl) (by kernel_rfl) ?_;iterate 15
     first
     | with_reducible refine BigFrame.wpQuiet_skip (by with_unfolding_all rfl) ?_
     | with_reducible refine BigFrame.wpQuiet_want (by kernel_rfl) (fun K hK=>?_)
       apply Exists.intro;refine⟨fun w' hC=>?_,hK _ ?_⟩
       ·have f0':=HQ0.o w' hC;have f1':=HQ1.o w' hC;have f2':=HQ2.o w' hC;have f3':=HQ3.o w' hC;have f4':=HQ4.o w' hC;have f5':=HQ5.o w' hC;have f6':=HQ6.o w' hC;unfold Oper.quietAt;go_simp
        first | with_reducible rfl | with_reducible exact bD hC (bJ _) (KI.o w' hC)
       clear hK K
     try simp only[Act.put,bP,bQ,bK]
    refine wpQuiet_nil ?_;intro w6 hb6;have HO6:=hid (own_below HO.o hb6);have HB6:=hid (HB.o.trans (hb6.mono hszr));clear hb6;go_wp2_with fail;refine⟨⟨i+1,O,by omega,rfl,HX2,HO6,HB6⟩,?_⟩;show n-((i:Int)+1).toNat<n-((i:Int)).toNat;omega
   ·cases hb
    ·have HX2:=hid (HX.o.put HXX.o hiv (of_decide_eq_false hhb));clear hiv hhb;go_wp2_with fail;refine ah (by kernel_rfl) (by kernel_rfl) ?_;iterate 15
      with_reducible refine BigFrame.wpQuiet_want (by kernel_rfl) (fun K hK=>?_)
      apply Exists.intro;refine⟨fun w' hC=>?_,hK _ ?_⟩
      ·have f0':=HQ0.o w' hC;have f1':=HQ1.o w' hC;have f2':=HQ2.o w' hC;have f3':=HQ3.o w' hC;have f4':=HQ4.o w' hC;have f5':=HQ5.o w' hC;have f6':=HQ6.o w' hC;unfold Oper.quietAt;go_simp
       first | with_reducible rfl | with_reducible exact bD hC (bJ _) (KI.o w' hC) | with_reducible exact bD hC (bJ _) (KH.o w' hC)
      clear hK K;try simp only[Act.put,bP,bQ,bK]
     refine wpQuiet_nil ?_;intro w6 hb6;have HO6:=hid (own_below HO.o hb6);have HB6:=hid (HB.o.trans (hb6.mono hszr));have q0:=HQ0.o w6 hb6;have q1:=HQ1.o w6 hb6;clear hb6 HQ0 HQ1 HQ2 HQ3 HQ4 HQ5 HQ6 KI KH;obtain⟨wq,eq⟩:=ai (w6.alloc (.cells #[.int .i64 x.1,.int .i64 x.2] 110));have hbq:aj w6 wq:=dM eq;have HNQ:=hid (show wq.heap[w6.heap.size]?=some (.cells #[.int .i64 x.1,.int .i64 x.2] 110 (0,0))from by rw[<-eq];exact aK _ _);have HOq:=hid (own_below HO6.o hbq);have HBq:=fJ HB6 hbq;have hdq:=HBq.o.size;clear hbq;go_wp2_with (at_builtin;refine nV rfl (.tmp 33) (.tmp 38) rfl W1.heap.size (.slice oo O.length oc) O.length (icells O) rfl HOq.o w6.heap.size rfl x.1 x.2 HNQ.o (by omega) hdq ?_);intro v7 w7 hown7 hg7 hat7;have HO8:=hid (oW hown7);have HB8:=hid (HBq.o.grown hg7 hdq (fun q hq=>(iF HOq.o q hq).1));clear hown7 hg7 hat7 eq q0 q1;go_wp2_with fail;refine⟨⟨i+1,O++[x],by omega,rfl,HX2,HO8,HB8⟩,?_⟩;show n-((i:Int)+1).toNat<n-((i:Int)).toNat;omega
    ·have HX2:=hid (HX.o.skip HXX.o (fun _=>of_decide_eq_true hhb));clear hiv hhb q0 q1;go_wp2_with fail;refine ah (by kernel_rfl) (by kernel_rfl) ?_;iterate 15
      with_reducible refine BigFrame.wpQuiet_want (by kernel_rfl) (fun K hK=>?_)
      apply Exists.intro;refine⟨fun w' hC=>?_,hK _ ?_⟩
      ·have f0':=HQ0.o w' hC;have f1':=HQ1.o w' hC;have f2':=HQ2.o w' hC;have f3':=HQ3.o w' hC;have f4':=HQ4.o w' hC;have f5':=HQ5.o w' hC;have f6':=HQ6.o w' hC;unfold Oper.quietAt;go_simp
       first | with_reducible rfl | with_reducible exact bD hC (bJ _) (KI.o w' hC) | with_reducible exact bD hC (bJ _) (KH.o w' hC)
      clear hK K;try simp only[Act.put,bP,bQ,bK]
     refine wpQuiet_nil ?_;intro w6 hb6;have HO6:=hid (own_below HO.o hb6);have HB6:=hid (HB.o.trans (hb6.mono hszr));clear hb6;go_wp2_with fail;refine⟨⟨i+1,O,by omega,rfl,HX2,HO6,HB6⟩,?_⟩;show n-((i:Int)+1).toNat<n-((i:Int)).toNat;omega
  ·have t1:¬ (i:Int)<(n:Int):=by omega
   have hin:i=n:=by omega
   have HR0:=hid (FQ.re (show FQ G l O l.length from by rw[HLN.o,<-hin];exact HX.o));clear HX hin hOl;generalize hwo:wr=wo at *;clear hwo;have hOO:=HR0.o.len;have HOw:=hid (show ∃ Q:Nat,O.length<=Q from⟨_,bJ _⟩);go_wp2_with fail
   go_loopw [5,7,8,9,10,11] (fun t5 t7 t8 t9 t10 t11 wr=>∃ (i:Nat) (O:List It),i<=O.length/\t7=.int .i64 (i:Int)/\Hid (Hf G l O i)/\Hid (wr.ownsRow W1.heap.size 110 2 t5 O.length (icells O))/\Hid (aj W1 wr)) (fun _ t7 _ _ _ _ _=>1600-(RowKit.intOf t7).toNat)
   case atStart=>exact⟨0,O,Nat.zero_le _,rfl,HR0,HO,HB⟩
   case round =>
    clear HO HB HR0 hOO HOw hszr;obtain⟨i,O,hi,rfl,HX,HO,HB⟩:=hrel;have hszr:=HB.o.size;have hOl:=HX.o.len;obtain⟨oo,oc,rfl⟩:=bF HO.o;by_cases hlt:i<O.length
    ·have t1:(i:Int)<(O.length:Int):=(by omega);have t2:(0:Int)<=(i:Int):=(by omega);obtain⟨x,hx⟩:∃ x,O[i]?=some x:=⟨_,dH hlt⟩;have HXX:=hid hx;have hxm:=List.mem_of_getElem? hx;obtain⟨hval,hin⟩:=HX.o.inn x hxm;have HVAL:=hid hval;obtain⟨lb,lo,rfl,q0,q1⟩:=(jl HO.o (by omega)).at_ hx;have HQ0:Hid (∀ w',aj wr w'->w'.cell? ⟨lb,lo+i*2,none⟩=some (.int .i64 x.1)):=hid fun w' hC=>cell_below hC q0;have HQ1:Hid (∀ w',aj wr w'->w'.cell? ⟨lb,lo+i*2+1,none⟩=some (.int .i64 x.2)):=hid fun w' hC=>cell_below hC q1;have HQ2:Hid (∀ w',aj wr w'->w'.cell? ⟨w.heap.size,0,none⟩=some (tv)):=hid fun w' hC=>cell_below hC (cell_below HB.o HC.o.1);have HQ3:Hid (∀ w',aj wr w'->w'.cell? ⟨w.heap.size,1,none⟩=some (ov)):=hid fun w' hC=>cell_below hC (cell_below HB.o HC.o.2.1);have HQ4:Hid (∀ w',aj wr w'->w'.cell? ⟨w.heap.size,2,none⟩=some (sv)):=hid fun w' hC=>cell_below hC (cell_below HB.o HC.o.2.2.1);have HQ5:Hid (∀ w',aj wr w'->w'.cell? ⟨w.heap.size,3,none⟩=some (.slice pa np pc)):=hid fun w' hC=>cell_below hC (cell_below HB.o HC.o.2.2.2.1);have HQ6:Hid (∀ w',aj wr w'->w'.cell? ⟨w.heap.size,4,none⟩=some (.int .i64 G.start)):=hid fun w' hC=>cell_below hC (cell_below HB.o HC.o.2.2.2.2);obtain⟨sy,hsy⟩:=ai ((jZ G x).getD 0);obtain⟨ok,hok⟩:=ai ((jZ G x).isSome);have hKB:∀ w',aj wr w'->Calls Tryz.prog 56 #[.agg #[tv,ov,sv,.slice pa np pc,.int .i64 G.start],.agg #[.int .i64 x.1,.int .i64 x.2]] w' fun e w''=>e=.returned (.tuple #[.int .i64 sy,.bool ok])/\aj w' w'':=fun w' hC=>by
      have h2:=qN (HWG.o w' (HB.o.trans (hC.mono hszr))) x;unfold Am at h2;rw[hsy,hok]at h2;exact h2
     have KB:=hid hKB;have HBX:=hid (show aY G x=if ok=true then some sy else none from by
      have e:jZ G x=aY G x:=by unfold jZ;rw[if_pos hval]
      rw[<-hsy,<-hok,<-e];cases jZ G x<;>rfl)
     have HXM:=hid hxm;clear hKB hx hxm hval hin hsy hok q0 q1;go_wp2_with fail;refine ah (by kernel_rfl) (by kernel_rfl) ?_;iterate 11
      with_reducible refine BigFrame.wpQuiet_want (by kernel_rfl) (fun K hK=>?_)
      apply Exists.intro;refine⟨fun w' hC=>?_,hK _ ?_⟩
      ·have f0':=HQ0.o w' hC;have f1':=HQ1.o w' hC;have f2':=HQ2.o w' hC;have f3':=HQ3.o w' hC;have f4':=HQ4.o w' hC;have f5':=HQ5.o w' hC;have f6':=HQ6.o w' hC;unfold Oper.quietAt;go_simp
       first | with_reducible rfl | with_reducible exact bD hC (bJ _) (KB.o w' hC)
      clear hK K;try simp only[Act.put,bP,bQ,bK]
     refine wpQuiet_nil ?_;intro w6 hb6;have HO7:=hid (own_below HO.o hb6);have HB7:=hid (HB.o.trans (hb6.mono hszr));clear hb6 HO HB HQ0 HQ1 HQ2 HQ3 HQ4 HQ5 HQ6 KB hszr;generalize hwo:w6=w5 at *;clear hwo;have HTL:=hid hlt;have hiL:i<1600:=by omega
     have HSY:=hid (show ok=true->sy<0->∃ t:Nat,-1-sy=(t:Int)/\t<60 from fun h1 h2=>by
      have h3:=HBX.o;rw[if_pos h1]at h3;have h4:=yG HVAL.o h3 h2;have h5:=(bn HVAL.o).2.1;exact⟨(-1-sy).toNat,by omega,by omega⟩)
     clear hi t1 hlt hOl;have HXs:=HX;go_wp2_with fail
     go_loopw [5,10,11] (fun t5 t10 t11 wr=>∃ (p:Nat) (O:List It),p<=np/\t10=.int .i64 (p:Int)/\Hid (Hf G l O i)/\Hid (O[i]?=some x)/\Hid (ok=true->sy<0->∀ q:Nat,q<p->bg G q=-1-sy->((q:Int),(0:Int))∈O)/\Hid (wr.ownsRow W1.heap.size 110 2 t5 O.length (icells O))/\Hid (aj W1 wr)) (fun _ t10 _ _=>np-(RowKit.intOf t10).toNat)
     case atStart=>exact⟨0,O,Nat.zero_le _,rfl,HX,HXX,hid (fun _ _ q hq=>absurd hq (Nat.not_lt_zero q)),HO7,HB7⟩
     case round =>
      clear HX HXX HO7 HB7 HTL HXM HXs;obtain⟨p,O,hp,rfl,HX,HXX,HQ,HO,HB⟩:=hrel;have hszr:=HB.o.size;have hOl:=HX.o.len;obtain⟨oo,oc,rfl⟩:=bF HO.o;have c3:ay wr w.heap.size 3 (.slice pa np pc):=cell_below HB.o HC.o.2.2.2.1;have HXL:=hid (show i+1<=O.length from(List.getElem?_eq_some_iff.1 HXX.o).1);by_cases hpn2:p<np
      ·have t3:(p:Int)<(np:Int):=(by omega);have t4:(0:Int)<=(p:Int):=(by omega);cases ok
       ·have HX2:=hid (HX.o.next HXX.o (fun s q hb=>by rw[HBX.o]at hb;cases hb));go_wp2_with fail;refine⟨⟨i+1,O,HXL.o,rfl,HX2,HO,HB⟩,?_⟩;show 1600-((i:Int)+1).toNat<1600-((i:Int)).toNat;omega
       ·by_cases hs0:sy<0
        ·obtain⟨t,hst,ht60⟩:=HSY.o rfl hs0;obtain⟨pb,po,rfl,hpq⟩:=HPC.o (by have:=HNP.o;omega);have hq:=(hpq p (by have:=HNP.o;omega)).2.1;obtain⟨sp,hsp⟩:=ai ((G.prods.getD p default).sort);rw[hsp]at hq;have HSP:=hid (show bg G p=sp from hsp);obtain⟨wx,ex⟩:=ai (wr.alloc (.cells #[.int .i64 0,.int .i64 0] 110));obtain⟨wa,ea⟩:=ai (wx.setCell ⟨wr.heap.size,0,none⟩ (.int .i64 (p:Int)));obtain⟨wb,eb⟩:=ai (wa.setCell ⟨wr.heap.size,1,none⟩ (.int .i64 0));obtain⟨nx,na,nb,hbb⟩:=Iq wr (p:Int) ex ea eb;have c0:ay wx wr.heap.size 0 (.int .i64 0):=ak nx 0;have f0:=bY nx 0;have c1:ay wa wr.heap.size 1 (.int .i64 0):=ak na 1;have f1:=bY na 1;have d0:ay wb wr.heap.size 0 (.int .i64 (p:Int)):=ak nb 0;have d1:ay wb wr.heap.size 1 (.int .i64 0):=ak nb 1;have hq:=cell_below (HB.o.trans (hbb.mono hszr)) hq;have c3:=cell_below hbb c3;have HBb:=hid (HB.o.trans (hbb.mono hszr));have HOb:=hid (own_below HO.o hbb);have HNB:=hid nb;have hsb:=hbb.size;have hlw:=(dZ nb);clear hpq hsp nx na nb hbb HO HB;by_cases hse:sp=(t:Int)
         ·subst hse;obtain⟨hb,hhb⟩:=ai (decide (((p:Int),(0:Int))∈O));have h2:=Bv (jl HOb.o (by omega)) ((p:Int),(0:Int));rw[hhb]at h2;have KH:=hid h2;unfold mg at KH;dsimp only at KH;clear h2;go_wp2_with fail;refine KH.o.mono ?_;rintro e w6 ⟨rfl,hb6⟩;have HO6:=hid (own_below HOb.o hb6);have HB6:=fJ HBb hb6;have n6:=(hb6.block _ hlw).trans HNB.o;have d0:ay w6 wr.heap.size 0 (.int .i64 (p:Int)):=ak n6 0;have d1:ay w6 wr.heap.size 1 (.int .i64 0):=ak n6 1;clear hb6 c0 f0 c1 f1 ex ea eb n6 KH HOb HBb c3 hq;cases hb
          ·have HX2:=hid (HX.o.put (List.mem_of_getElem? HXX.o) (Nat.le_of_succ_le HXL.o) (show aY G x=some sy from HBX.o) hs0 (by rw[HNP.o];exact hpn2) (by rw[HSP.o,hst]) (of_decide_eq_false hhb));have HXX2:=hid (show(O++[((p:Int),(0:Int))])[i]?=some x from by rw[List.getElem?_append_left HXL.o];exact HXX.o);have HQ2:=hid (show True->sy<0->∀ q:Nat,q<p+1->bg G q=-1-sy->((q:Int),(0:Int))∈O++[((p:Int),(0:Int))]from fun h1 h2 q hq he=>by
            by_cases hqp:q<p
            ·exact List.mem_append_left _ (HQ.o (by first | exact h1 | trivial | rfl) h2 q hqp he)
            ·obtain rfl:q=p:=by omega
             simp)
           obtain⟨wq,eq⟩:=ai (w6.alloc (.cells #[.int .i64 (p:Int),.int .i64 0] 110));have hbq:aj w6 wq:=dM eq;have HNQ:=hid (show wq.heap[w6.heap.size]?=some (.cells #[.int .i64 (p:Int),.int .i64 0] 110 (0,0))from by rw[<-eq];exact aK _ _);have HOq:=hid (own_below HO6.o hbq);have HBq:=fJ HB6 hbq;have hdq:=HBq.o.size;clear hbq hhb;go_wp2_with (at_builtin;refine nV rfl (.tmp 86) (.tmp 88) rfl W1.heap.size (.slice oo O.length oc) O.length (icells O) rfl HOq.o w6.heap.size rfl (p:Int) 0 HNQ.o (by omega) hdq ?_);intro v7 w7 hown7 hg7 hat7;have HO8:=hid (oW (x:=((p:Int),(0:Int))) hown7);have HB8:=hid (HBq.o.grown hg7 hdq (fun q hq=>(iF HOq.o q hq).1));clear hown7 hg7 hat7 eq d0 d1 HOq HBq HNQ;go_wp2_with fail;refine⟨⟨p+1,O++[((p:Int),(0:Int))],by omega,rfl,HX2,HXX2,HQ2,HO8,HB8⟩,?_⟩;show np-((p:Int)+1).toNat<np-((p:Int)).toNat;omega
          ·have HQ2:=hid (show True->sy<0->∀ q:Nat,q<p+1->bg G q=-1-sy->((q:Int),(0:Int))∈O from fun h1 h2 q hq he=>by
            by_cases hqp:q<p
            ·exact HQ.o (by first | exact h1 | trivial | rfl) h2 q hqp he
            ·obtain rfl:q=p:=by omega
             exact of_decide_eq_true hhb)
           clear hhb;go_wp2_with fail;refine⟨⟨p+1,O,by omega,rfl,HX,HXX,HQ2,HO6,HB6⟩,?_⟩;show np-((p:Int)+1).toNat<np-((p:Int)).toNat;omega
         ·have hse2:(sp == (t:Int))=false:=by rw[beq_eq_false_iff_ne];exact hse
          have HQ2:=hid (show True->sy<0->∀ q:Nat,q<p+1->bg G q=-1-sy->((q:Int),(0:Int))∈O from fun h1 h2 q hq he=>by
           by_cases hqp:q<p
           ·exact HQ.o (by first | exact h1 | trivial | rfl) h2 q hqp he
           ·obtain rfl:q=p:=by omega
            exact absurd (by rw[<-HSP.o,he,hst]) hse)
          go_wp2_with fail;refine⟨⟨p+1,O,by omega,rfl,HX,HXX,HQ2,HOb,HBb⟩,?_⟩;show np-((p:Int)+1).toNat<np-((p:Int)).toNat;omega
        ·have hs1:decide (sy<0)=false:=dA hs0;have HX2:=hid (HX.o.next HXX.o (fun s q hb hs=>by
          rw[HBX.o,if_pos rfl]at hb;injection hb with hb;omega))
         go_wp2_with fail;refine⟨⟨i+1,O,HXL.o,rfl,HX2,HO,HB⟩,?_⟩;show 1600-((i:Int)+1).toNat<1600-((i:Int)).toNat;omega
      ·have t3:¬ (p:Int)<(np:Int):=(by omega);have hpe:p=np:=(by omega);have HX2:=hid (HX.o.next HXX.o (fun s q hb hs hq he=>by
        rw[HBX.o]at hb;split at hb
        ·rename_i k;injection hb with hb;subst hb;exact HQ.o k hs q (by rw[hpe,<-HNP.o];exact hq) he
        ·cases hb))
       clear hpe;go_wp2_with fail;refine⟨⟨i+1,O,HXL.o,rfl,HX2,HO,HB⟩,?_⟩;show 1600-((i:Int)+1).toNat<1600-((i:Int)).toNat;omega
    ·have t1:¬ (i:Int)<(O.length:Int):=(by omega);have KR:=hid (wI (jl HO.o (by omega)) (by omega));have HOL:=hid (show O.length<=i from by omega);clear hlt;go_wp2_with fail;refine KR.o.mono ?_;rintro e w9 ⟨L,hL1,hL2,hL3,rv9,rfl,hL4,hL5⟩;have HR:=hid (And.intro (HX.o.close HOL.o hL1 hL2) (And.intro hL4 hL5));clear hL1 hL2 hL3 hL4 hL5 KR;go_wp2_with fail;go_ret;refine⟨_,rfl,?_,HB1.o.trans ((HB.o.trans (HR.o.2.2.mono HB.o.size)).mono HB1.o.size)⟩;rw[<-HR.o.1];exact own_base HR.o.2.1 (eX HB1.o.size HB.o.size)
end Go.Proofs.YticmnfmijdgmbaaGreatDoor
namespace Go.Proofs.aO
theorem rW {G:Go.Proofs.YticmnfmijdgmbaaGreatDoor.GD}{c:List It}{i:Nat}{x:It}(hx:c[i]?=some x)(s:Int):aX G (c.take (i+1)) s=aX G (c.take i) s++if aY G x=some s then [(x.1,x.2+1)]else []:=by
 unfold aX;rw[List.take_add_one,hx,List.filter_append,List.map_append];congr 1;by_cases h:aY G x=some s
 ·simp[h]
 ·simp[h]
end Go.Proofs.aO
namespace Go.Proofs.YticmnfmijdgmbaaGreatDoor
open Go Go.RowKit Go.Lib
open aO (It Less iQ bu aY bg ax fD aX pK lT)
theorem wrap_small {a:Int}(h0:-9223372036854775808<=a)(h1:a<=9223372036854775807):IntKind.i64.wrap a=a:=by
 unfold IntKind.wrap;simp[IntKind.signed,IntKind.bits];omega
theorem Ah {G:GD}{gv v:Value}{w:World}{l:List It}(h:fZ w gv G)(hi:aS w v l)(hl:l.length<=100000)(s:Int) :
  Calls Tryz.prog 89 #[gv,v,.int .i64 s] w (RowP (pK G l s) w):=by
 have HGr:=hid h;obtain⟨vo,vc,rfl,hvn⟩:=hi.len;obtain⟨tv,ov,sv,pv,tf,rv,h⟩:=h;obtain⟨W1,B,hW1,hB,c0,c1,c2,c3,c4,hG,hb,hsz⟩:=gU h;have hgv:=h.eq;subst hgv hB;have e1:=hW1.symm;have HC:=hid (And.intro c0 (And.intro c1 (And.intro c2 (And.intro c3 c4))));have HB1:=hid hb;have HWG:=hid (show ∀ w',aj W1 w'->fZ w' (.agg #[tv,ov,sv,pv,.int .i64 G.start]) G from fun w' hC=>HGr.o.below (hb.trans (hC.mono hsz)));have KC:=hid (yO (HWG.o W1 (eH _ _)) (hi.below hb) hl);clear h hG hW1 hb hi;go_enter Tryz.func89,Tryz.ntmps89;go_wp2_with fail;refine KC.o.mono ?_;rintro e w2 ⟨cv,rfl,hcv,hb2⟩;have hcl:=aO.kP G l;have HIN:=hid (show ∀ x∈fD G l,aB G=true/\bu G x=true from fun x hx=>⟨(aO.sJ.1 hx).1,(aO.sJ.1 hx).2.there⟩);have HST:=hid (show pK G l s=aX G (fD G l) s from rfl);have HRS:=hid (aO.Eu (G:=G) (aO.wE G l) s);generalize fD G l=C at *;generalize pK G l s=ST at *;obtain⟨n,hln⟩:=ai (C.length);have HLN:=hid hln;have HL:=hid (jl hcv (by omega));obtain⟨co,cc,rfl⟩:=bF hcv;have HB2:=hid hb2;have HF2:=hid (show ∀ w',aj w2 w'->aj W1 w' from fun w' hC=>hb2.trans (hC.mono hb2.size));rw[hln]at HL hcl ⊢;clear hcv hb2 hln KC c0 c1 c2 c3 c4 e1;go_wp2_with fail
 go_loopw [7,9,10,11] (fun t7 t9 t10 t11 wr=>∃ (k:Nat),k<=n/\t9=.int .i64 (k:Int)/\Hid (wr.ownsRow w2.heap.size 110 2 t7 (aX G (C.take k) s).length (icells (aX G (C.take k) s)))/\Hid (aj w2 wr)) (fun _ t9 _ _ _=>n-(RowKit.intOf t9).toNat)
 case atStart=>exact⟨0,Nat.zero_le _,rfl,hid (World.ownsRow_nil _ _ _ _),hid (eH _ _)⟩
 case round =>
  obtain⟨k,hk,rfl,HO,HB⟩:=hrel;have hszr:=HB.o.size;by_cases hlt:k<n
  ·have t1:(k:Int)<(n:Int):=by omega
   have t2:(0:Int)<=(k:Int):=by omega
   obtain⟨x,hx⟩:∃ x,C[k]?=some x:=⟨_,dH (by rw[HLN.o];exact hlt)⟩;obtain⟨hval,hth⟩:=HIN.o x (List.mem_of_getElem? hx);have hx2:0<=x.2/\x.2<=12:=by
    have h1:=aO.bW.1 hth;have h2:=aO.right_le hval h1.1 h1.2.1;omega
   obtain⟨lb,lo,rfl,q0,q1⟩:=HL.o.at_ hx;have HTK:=hid (aO.rW (G:=G) hx s);obtain⟨K,hK⟩:=ai (aX G (C.take k) s);have hKl:K.length<=100000:=by
    rw[<-hK];unfold aO.aX;rw[List.length_map];refine eX (List.length_filter_le _ _) ?_;rw[List.length_take];omega
   rw[hK]at HO HTK;obtain⟨oo,oc,rfl⟩:=bF HO.o;have HQ0:Hid (∀ w',aj wr w'->w'.cell? ⟨lb,lo+k*2,none⟩=some (.int .i64 x.1)):=hid fun w' hC=>cell_below hC (cell_below HB.o q0);have HQ1:Hid (∀ w',aj wr w'->w'.cell? ⟨lb,lo+k*2+1,none⟩=some (.int .i64 x.2)):=hid fun w' hC=>cell_below hC (cell_below HB.o q1);have HQ2:Hid (∀ w',aj wr w'->w'.cell? ⟨w.heap.size,0,none⟩=some (tv)):=hid fun w' hC=>cell_below hC (cell_below (HF2.o wr HB.o) HC.o.1);have HQ3:Hid (∀ w',aj wr w'->w'.cell? ⟨w.heap.size,1,none⟩=some (ov)):=hid fun w' hC=>cell_below hC (cell_below (HF2.o wr HB.o) HC.o.2.1);have HQ4:Hid (∀ w',aj wr w'->w'.cell? ⟨w.heap.size,2,none⟩=some (sv)):=hid fun w' hC=>cell_below hC (cell_below (HF2.o wr HB.o) HC.o.2.2.1);have HQ5:Hid (∀ w',aj wr w'->w'.cell? ⟨w.heap.size,3,none⟩=some (pv)):=hid fun w' hC=>cell_below hC (cell_below (HF2.o wr HB.o) HC.o.2.2.2.1);have HQ6:Hid (∀ w',aj wr w'->w'.cell? ⟨w.heap.size,4,none⟩=some (.int .i64 G.start)):=hid fun w' hC=>cell_below hC (cell_below (HF2.o wr HB.o) HC.o.2.2.2.2);obtain⟨sy,hsy⟩:=ai ((jZ G x).getD 0);obtain⟨ok,hok⟩:=ai ((jZ G x).isSome);have hKB:∀ w',aj wr w'->Calls Tryz.prog 56 #[.agg #[tv,ov,sv,pv,.int .i64 G.start],.agg #[.int .i64 x.1,.int .i64 x.2]] w' fun e w''=>e=.returned (.tuple #[.int .i64 sy,.bool ok])/\aj w' w'':=fun w' hC=>by
    have h2:=qN (HWG.o w' (HF2.o w' (HB.o.trans (hC.mono hszr)))) x;unfold Am at h2;rw[hsy,hok]at h2;exact h2
   have KB:=hid hKB;have HBX:=hid (show aY G x=if ok=true then some sy else none from by
    have e:jZ G x=aY G x:=by unfold jZ;rw[if_pos hval]
    rw[<-hsy,<-hok,<-e];cases jZ G x<;>rfl)
   have HS2:=hid (show ∀ w',aj w2 w'->ay w' lb (lo+k*2) (.int .i64 x.1)/\ay w' lb (lo+k*2+1) (.int .i64 x.2)from fun w' hC=>⟨cell_below hC q0,cell_below hC q1⟩);have hwx:IntKind.i64.wrap (x.2+1)=x.2+1:=wrap_small (by omega) (by omega);clear hKB hx hval hth hsy hok q0 q1 hK;go_wp2_with fail;refine ah (by kernel_rfl) (by kernel_rfl) ?_;iterate 11
    with_reducible refine BigFrame.wpQuiet_want (by kernel_rfl) (fun K hK=>?_)
    apply Exists.intro;refine⟨fun w' hC=>?_,hK _ ?_⟩
    ·have f0':=HQ0.o w' hC;have f1':=HQ1.o w' hC;have f2':=HQ2.o w' hC;have f3':=HQ3.o w' hC;have f4':=HQ4.o w' hC;have f5':=HQ5.o w' hC;have f6':=HQ6.o w' hC;unfold Oper.quietAt;go_simp
     first | with_reducible rfl | with_reducible exact bD hC (bJ _) (KB.o w' hC)
    clear hK K;try simp only[Act.put,bP,bQ,bK]
   refine wpQuiet_nil ?_;intro w6 hb6;have HO6:=hid (own_below HO.o hb6);have HB6:=hid (HB.o.trans (hb6.mono hszr));have hs6:=HB6.o.size;clear hb6 HO HB HQ0 HQ1 HQ2 HQ3 HQ4 HQ5 HQ6 KB hszr;by_cases hyes:ok=true/\sy=s
   case neg =>
    have HO7:=hid (show w6.ownsRow w2.heap.size 110 2 (.slice oo K.length oc) (aX G (C.take (k+1)) s).length (icells (aX G (C.take (k+1)) s))from by
     rw[HTK.o,if_neg,List.append_nil]
     ·exact HO6.o
     ·rw[HBX.o];intro e;split at e
      ·rename_i k0;injection e with e;exact hyes ⟨k0,e⟩
      ·cases e)
    cases ok
    ·go_wp2_with fail;refine⟨⟨k+1,by omega,rfl,HO7,HB6⟩,?_⟩;show n-((k:Int)+1).toNat<n-((k:Int)).toNat;omega
    ·have hss:(sy == s)=false:=by rw[beq_eq_false_iff_ne];exact fun e=>hyes ⟨rfl,e⟩
     go_wp2_with fail;refine⟨⟨k+1,by omega,rfl,HO7,HB6⟩,?_⟩;show n-((k:Int)+1).toNat<n-((k:Int)).toNat;omega
   case pos =>
    obtain⟨rfl,rfl⟩:=hyes;have HTK2:=hid (show aX G (C.take (k+1)) sy=K++[(x.1,x.2+1)]from by rw[HTK.o,if_pos (by rw[HBX.o,if_pos rfl])]);clear HTK HBX;obtain⟨we,ewe⟩:=ai (w6.drew);have hbe:aj w6 we:=pW ewe;have HBe:=fJ HB6 hbe;have HOe:=hid (own_below HO6.o hbe);have HS:=hid (show ∀ w',aj we w'->ay w' lb (lo+k*2) (.int .i64 x.1)/\ay w' lb (lo+k*2+1) (.int .i64 x.2)from fun w' hC=>HS2.o w' (HBe.o.trans (hC.mono HBe.o.size)));have HH0:=HS2.o we HBe.o;clear hbe;obtain⟨x1,x2⟩:=x;dsimp only at *;go_wp2_with fail;refine aW 15 (fun w'=>w'.cell? ⟨lb,lo+k*2,none⟩=some (.int .i64 x1)/\w'.cell? ⟨lb,lo+k*2+1,none⟩=some (.int .i64 x2)) (by kernel_rfl) (by rw[ewe];exact HH0) (fun inv hHeld=>?_);rw[ewe];clear hHeld ewe;iterate 13
     refine aF (v:=?_) rfl (by kernel_rfl) (fun _ _ _ h=>h) (Or.inl ⟨by rfl,?_⟩) HH0 inv (fun inv=>?_)
     rotate_left
     ·intro w hSw;try dsimp only at hSw
      go_simp;try with_reducible rfl
     simp only[Act.put,bP,bQ,bK]
    refine eu (i:=13) rfl (by kernel_rfl) (by decide) inv (fun inv K' hK=>?_);go_simp;obtain⟨wq,eq⟩:=ai (we.alloc (.cells #[.int .i64 x1,.int .i64 (x2+1)] 110));have hbq:aj we wq:=dM eq;have HNQ:=hid (show wq.heap[we.heap.size]?=some (.cells #[.int .i64 x1,.int .i64 (x2+1)] 110 (0,0))from by rw[<-eq];exact aK _ _);have HOq:=hid (own_below HOe.o hbq);have HBq:=fJ HBe hbq;have hdq:=HBq.o.size;have HH1:=HS.o wq hbq;try rw[eq]
    refine hK.out _ _ HH1 ?_;clear hK K' hbq HH0;try simp only[Act.put,bP,bQ,bK]
    refine eu (i:=14) rfl (by kernel_rfl) (by decide) inv (fun inv K' hK=>?_);simp only[Region.wanted];rw[if_pos trivial];refine Ht (.tmp 36) (.tmp 49) rfl w2.heap.size (.slice oo K.length oc) K.length (icells K) rfl HOq.o we.heap.size rfl x1 (x2+1) HNQ.o (by omega) hdq ?_;intro v7 w7 hown7 hg7 hat7;have HO8:=hid (oW (x:=(x1,(x2+1))) hown7);have HB8:=hid (HBq.o.grown hg7 hdq (fun q hq=>(iF HOq.o q hq).1));have HH2:=HS2.o w7 HB8.o;refine hK.out _ _ HH2 ?_;clear hK K' HH1 hown7 hg7 hat7;try simp only[Act.put,bP,bQ,bK]
    refine fQ (i:=15) rfl (by kernel_rfl) (fun K' hK=>?_);go_simp;refine hK.out _ _ (fun h=>absurd h (by decide)) ?_;clear hK K';try simp only[Act.put,bP,bQ,bK]
    refine aQ (by kernel_rfl) ?_ _;have HO9:=hid (show w7.ownsRow w2.heap.size 110 2 v7 (aX G (C.take (k+1)) sy).length (icells (aX G (C.take (k+1)) sy))from by rw[HTK2.o];exact HO8.o);go_wp2_with fail;refine⟨⟨k+1,by omega,rfl,HO9,HB8⟩,?_⟩;show n-((k:Int)+1).toNat<n-((k:Int)).toNat;omega
  ·have t1:¬ (k:Int)<(n:Int):=by omega
   have hkn:k=n:=by omega
   have HO2:=hid (show wr.ownsRow w2.heap.size 110 2 u7 ST.length (icells ST)from by
    have:=HO.o;rw[hkn,<-HLN.o,List.take_length,<-HST.o]at this;exact this)
   have hSl:ST.length<=1573:=by
    rw[HST.o];unfold aO.aX;rw[List.length_map];exact eX (List.length_filter_le _ _) (by rw[HLN.o];exact hcl)
   clear hkn;have KR:=hid (wI (jl HO2.o (by omega)) (by omega));go_wp2_with fail;refine KR.o.mono ?_;rintro e w9 ⟨L,hL1,hL2,hL3,rv9,rfl,hL4,hL5⟩;have HE:=hid (show L=ST from hL1.eq (by rw[HST.o];exact HRS.o) hL2);have HR:=hid (And.intro hL4 hL5);clear hL1 hL2 hL3 hL4 hL5 KR;go_wp2_with fail;go_ret;refine⟨_,rfl,?_,HB1.o.trans ((HF2.o w9 (HB.o.trans (HR.o.2.mono HB.o.size))).mono HB1.o.size)⟩;rw[<-HE.o];exact own_base HR.o.1 (eX (eX HB1.o.size HB2.o.size) HB.o.size)
end Go.Proofs.YticmnfmijdgmbaaGreatDoor
