import Derived.Laws.ResultCell
import Derived.Laws.Rows
import Derived.Test.YticmnfmijdgmbaaGreatDoorSw
set_option linter.all false
set_option maxRecDepth 100000
set_option maxHeartbeats 16000000
namespace Go.Proofs.YticmnfmijdgmbaaGreatDoor
open Go Go.RowKit Go.Lib
open aO (It fG aX aP fD ag fB aN dn fF cO bu)
open Go.Maps (Keyed)
theorem size49:(Tryz.prog.info? 55).map (·.size)=some 2:=by kernel_rfl
theorem uQ {fn:Func}(h:fn.results=#[.cell 2 55,.tmp 3])(tmps:Array Value)(w:World)(g:Nat)(a b:Value)(n:Int)
  (hp:tmps.getD 2 undef=.pointer (some ⟨g,0,none⟩)) (hn:tmps.getD 3 undef=.int .i64 n) (hg:w.heap[g]?=some (.cells #[a,b] 55 (0,0))) :
  (results fn tmps).run Tryz.prog w=.ok (.tuple #[.agg #[a,b],.int .i64 n]) w:=by
 rw[results_cell_tmp h,hp,hn];simp[asAddr,Result.andThen,run_loadVar_row w g 55 55 #[a,b] (0,0) _ hg Tryz.underlying55 rfl (by rw[size49];rfl)]
theorem LJ {w W1 W2 w3 W4 W5 W8 W11 W13:World}{gc:Array Value}{g0 gK bA bM bN bR:Nat}
  (n1:W1.heap[w.heap.size]?=some (.cells gc 27 (0,0))) (h1:aj w W1)
  (eR:W1.heap.size=bR) (n2:W2.heap[bR]?=some (.cells #[.slice none 0 0,.slice none 0 0] 55 (0,0))) (h2:aj W1 W2) (h3:aj W2 w3)
  (e0:w3.heap.size=g0) (n4:W4.heap[g0]?=some (.cells #[.int .i64 (-1),.int .i64 0] 60 (0,0))) (h4:aj w3 W4)
  (eK:W4.heap.size=gK) (n5:W5.heap[gK]?=some (.cells #[.slice (some ⟨g0,0,none⟩) 1 1] 45 (0,0))) (h5:aj W4 W5)
  (eA:W5.heap.size=bA) (n8:W8.heap[bA]?=some (.cells #[.slice (some ⟨gK,0,none⟩) 1 1,.slice none 0 0] 55 (0,0))) (h8:aj W5 W8)
  (eM:W8.heap.size=bM) (hm:bH Tryz.prog 9 W11 bM (kmap [[((-1:Int),(0:Int))]])) (h11:aj W8 W11)
  (eN:W11.heap.size=bN) (n13:W13.heap[bN]?=some (.cells #[.map (some bM)] 121 (0,0))) (h13:aj W11 W13) :
  BF w.heap.size w W13 bA bN bM w.heap.size bR gc (.slice (some ⟨gK,0,none⟩) 1 1) (.slice none 0 0) [(g0,1,[((-1:Int),(0:Int))])] [] [(g0,[((-1:Int),(0:Int))])] (.slice none 0 0) [] Dq:=by
 have lt:∀ {W:World}{b:Nat}{o:Obj},W.heap[b]?=some o->b<W.heap.size:=fun h=>(dZ h);have one:∀ {b c:Nat},c∈[b]->c=b:=fun h=>by simpa using h
 have f0:=(az.empty w w.heap.size (bJ _)).add (ae w.heap.size (.cells gc 27 (0,0))) h1 n1 (fun c hc=>by rw[one hc];exact⟨bJ _,lt n1⟩);have f1:=f0.add (ae bR (.cells #[.slice none 0 0,.slice none 0 0] 55 (0,0))) h2 n2 (fun c hc=>by rw[one hc];exact⟨by omega,lt n2⟩);have f2:=(f1.below h3).add (dY [(g0,[((-1:Int),(0:Int))])]) h4 (fun q hq=>by
  obtain rfl:q=(g0,[((-1:Int),(0:Int))]):=by simpa using hq
  intro i hi;obtain rfl:i=0:=by have:i<1:=hi;omega
  exact⟨ak n4 0,ak n4 1,bY n4 0,bY n4 1⟩) (fun c hc=>by
  have e:c=g0:=one hc;rw[e];exact⟨by omega,lt n4⟩)
 have hgK:w.heap.size<=gK:=by have:=f2.bel.size;omega
 have f3:=f2.add (pU w.heap.size 45 (.slice (some ⟨gK,0,none⟩) 1 1) [.slice (some ⟨g0,0,none⟩) 1 1]) h5 (show World.ownsRow _ w.heap.size 45 1 (.slice (some ⟨gK,0,none⟩) 1 1) 1 [.slice (some ⟨g0,0,none⟩) 1 1]from⟨rfl,.inr ⟨gK,1,_,rfl,hgK,n5,bJ _,(by unfold maxLen;omega),rfl,rfl⟩⟩) (fun c hc=>by
  have e:c=gK:=by
   have:c∈(Value.slice (some ⟨gK,0,none⟩) 1 1).ownBlock.toList:=hc;simpa[Value.ownBlock] using this
  rw[e];exact⟨by omega,lt n5⟩)
 have f4:=f3.add (ae bA (.cells #[.slice (some ⟨gK,0,none⟩) 1 1,.slice none 0 0] 55 (0,0))) h8 n8 (fun c hc=>by rw[one hc];exact⟨by omega,lt n8⟩);have f5:=f4.add (lI 9 bM (kmap [[((-1:Int),(0:Int))]])) h11 hm (fun c hc=>by rw[one hc];exact⟨by omega,hm.lt⟩);have f6:=f5.add (ae bN (.cells #[.map (some bM)] 121 (0,0))) h13 n13 (fun c hc=>by rw[one hc];exact⟨by omega,lt n13⟩);have f7:=f6.add (pU w.heap.size 43 (.slice none 0 0) []) (eH _ _) (World.ownsRow_nil _ _ _ _) (fun c hc=>by
  have:c∈(Value.slice none 0 0).ownBlock.toList:=hc;simp[Value.ownBlock]at this)
 have f8:=f7.add (nfI []) (eH _ _) (fun q hq=>by cases hq) (fun c hc=>by cases hc);have f9:=f8.add (pU w.heap.size 3 (.slice none 0 0) []) (eH _ _) (World.ownsRow_nil _ _ _ _) (fun c hc=>by
  have:c∈(Value.slice none 0 0).ownBlock.toList:=hc;simp[Value.ownBlock]at this)
 have f10:=f9.add Dq (eH _ _) trivial (fun c hc=>by cases hc);refine⟨f10.pick _ (fun i=>[4,6,5,3,7,2,8,9,0,1,10].getD i 0) (fun i x hx=>?_) (fun i j hi hj e=>?_),fun q hq=>?_⟩
 ·have hi:i<11:=(List.getElem?_eq_some_iff.1 hx).1;have hi2:i=0\/i=1\/i=2\/i=3\/i=4\/i=5\/i=6\/i=7\/i=8\/i=9\/i=10:=by omega
  rcases hi2 with rfl | rfl | rfl | rfl | rfl | rfl | rfl | rfl | rfl | rfl | rfl<;>exact hx
 ·have hi:i<11:=hi;have hj:j<11:=hj;have:∀ i,i<11->∀ j,j<11->[4,6,5,3,7,2,8,9,0,1,10].getD i 0=[4,6,5,3,7,2,8,9,0,1,10].getD j 0->i=j:=by decide
  exact this i hi j hj e
 ·obtain rfl:q=(g0,1,[((-1:Int),(0:Int))]):=by simpa using hq
  simp
theorem wP.look2 {w0 w wz:World}{f:Int->List It}{b:Nat}{M:List FU}(h:wP w0 w f b M)(hm:bH Tryz.prog 61 wz b (M.map (lV f))){s:Int}(h0:-9223372036854775808<=s)(h1:s<=9223372036854775807)(F:List (Nat×List It)) :
  ∃ v,(Instr.lookup 124 (.map (some b)) (.int .i64 s) false).run Tryz.prog wz=.ok v wz/\Ho (F++rowsOf f M) v (f s):=by
 by_cases hin:s∈M.map (·.1)
 ·obtain⟨p,hpM,hpe⟩:=List.mem_map.1 hin;subst hpe;exact⟨wL p (f p.1),hm.sK ru Tryz.underlying124 (Kt h0 h1) (h.mem hpM),.inr ⟨p.2.1,p.2.2,rfl,h.ne p hpM,List.mem_append_right _ (List.mem_map.2 ⟨p,hpM,rfl⟩)⟩⟩
 ·exact⟨.slice none 0 0,hm.sN ru Tryz.underlying124 (Kt h0 h1) (Ji _) (h.none_ hin),.inl ⟨rfl,h.all s hin⟩⟩
theorem Jm {P:Program}{w:World}{o:Oper}{a:Act}{K:Act->World->Prop}{Q:Exit->Act->World->Prop}{b:Nat}(m x:Operand)(t:TypeId)(hop:o.op=Op.lookup t m x false)(hm:a.eval m=.map (some b))(xv v:Value)(hx:a.eval x=xv)
  (hrun:(Instr.lookup t (.map (some b)) xv false).run P w=.ok v w) (hK:K (a.put o.dst v) w):o.wp P a w K Q:=by
 unfold Oper.wp;simp[execOp,hop,hm,hx,hrun,Result.andThen];exact hK
theorem pJ {P:Program}{w:World}{ops:Array Oper}{rest:List Oper}{o:Oper}{a:Act}{Q:Exit->Act->World->Prop}{b:Nat}(hg:o.guard=none)(m x:Operand)(t:TypeId)(hop:o.op=Op.lookup t m x false)(hm:a.eval m=.map (some b))(xv v:Value)(hx:a.eval x=xv)
  (hrun:(Instr.lookup t (.map (some b)) xv false).run P w=.ok v w) (hK:wpList P ops Q rest (a.put o.dst v) w):wpList P ops Q (o::rest) a w:=by
 refine wpList_plain hg fun K' hK'=>?_;exact Jm m x t hop hm xv v hx hrun (hK' _ _ hK)
theorem vT {G:GD}{gv:Value}{w:World}{Bt:Nat}(h:fZ w gv G)(ht:Tab Bt w)(hBt:Bt<=w.heap.size) :
  Calls Tryz.prog 23 #[gv] w (MZ G w):=by
 have HGr:=hid h;have HT:=hid ht;obtain⟨tv,ov,sv,pv,tf,rv,h⟩:=h;have hgv:=h.eq;subst hgv;obtain⟨gY,tc,rfl,htn,_⟩:=h.terms;obtain⟨so,sc,rfl,hsn,_⟩:=h.sorts;obtain⟨W1,e1⟩:=ai (w.alloc (.cells #[.slice gY G.terms.length tc,ov,.slice so G.sorts.length sc,pv,.int .i64 G.start] 27));have hb1:aj w W1:=dM e1;have n1:W1.heap[w.heap.size]?=some (.cells #[.slice gY G.terms.length tc,ov,.slice so G.sorts.length sc,pv,.int .i64 G.start] 27 (0,0)):=dO e1;obtain⟨W2,e2⟩:=ai (W1.alloc (.cells #[.slice none 0 0,.slice none 0 0] 55));have hb2:aj W1 W2:=dM e2;have n2:W2.heap[W1.heap.size]?=some (.cells #[.slice none 0 0,.slice none 0 0] 55 (0,0)):=dO e2;have hbw:=hb1.trans (hb2.mono hb1.size);have n1':=(hb2.block _ (dZ n1)).trans n1;have b0:=ak n1' 0;have b1:=ak n1' 1;have b2:=ak n1' 2;have b3:=ak n1' 3;have b4:=ak n1' 4;have KV:=hid (mO (h.mono hbw));obtain⟨vv,hvv⟩:=ai (aB G);have HVV:=hid hvv;rw[hvv]at KV;obtain⟨bR,hbR⟩:=ai (W1.heap.size);rw[hbR]at n2;have H1:=hid (And.intro n1 hb1);have H2:=hid (And.intro n2 hb2);have HSR:=hid (And.intro hb1.size hbR);clear h hbw hvv hb1 hb2 n1 n2 n1';go_enter Tryz.func23,Tryz.ntmps23;go_wp2_with fail;refine KV.o.mono ?_;rintro e w3 ⟨rfl,hb3⟩;have n2':=(hb3.block _ (dZ H2.o.1)).trans H2.o.1;have r0:=ak n2' 0;have r1:=ak n2' 1;have q0:=bY n2' 0;have q1:=bY n2' 1;have hS2:=H2.o.2.size;have hSz:=HSR.o.1;have HB3:=hid hb3;clear KV b0 b1 b2 b3 b4;cases vv
 ·obtain⟨wa,ea⟩:=ai (w3.setCell ⟨bR,0,none⟩ (.slice none 0 0));have na:wa.heap[bR]?=some (.cells #[.slice none 0 0,.slice none 0 0] 55 (0,0)):=by rw[<-ea];exact heap_setCell_same _ _ 0 _ 55 _ n2'
  have ra:=ak na 1;have qa:=bY na 1;obtain⟨wb,eb⟩:=ai (wa.setCell ⟨bR,1,none⟩ (.slice none 0 0));have HNB:=hid (show wb.heap[bR]?=some (.cells #[.slice none 0 0,.slice none 0 0] 55 (0,0))from by rw[<-eb];exact heap_setCell_same _ _ 1 _ 55 _ na);have hle:w.heap.size<=bR:=by rw[<-hbR];exact hSz
  have HFIN:=hid (show aj w wb from by
   rw[<-eb,<-ea];exact((H1.o.2.trans ((H2.o.2.trans (hb3.mono hS2)).mono hSz)).setCell hle _).setCell hle _)
  clear hb3 n2' na;go_wp2_with fail;refine bodyPost_ret (v:=.tuple #[wu,.int .i64 1]) (uQ rfl _ _ bR _ _ 1 rfl rfl HNB.o) rfl ?_;exact⟨HFIN.o,.inl ⟨HVV.o,rfl⟩⟩
 obtain⟨W4,e4⟩:=ai (w3.alloc (.cells #[.int .i64 (-1),.int .i64 0] 60));have n4:W4.heap[w3.heap.size]?=some (.cells #[.int .i64 (-1),.int .i64 0] 60 (0,0)):=dO e4;have h4:aj w3 W4:=dM e4;obtain⟨W5,e5⟩:=ai (W4.alloc (.cells #[.slice (some ⟨w3.heap.size,0,none⟩) 1 1] 45));have n5:W5.heap[W4.heap.size]?=some (.cells #[.slice (some ⟨w3.heap.size,0,none⟩) 1 1] 45 (0,0)):=dO e5;have h5:aj W4 W5:=dM e5;obtain⟨W6,e6⟩:=ai (W5.alloc (.cells #[.slice none 0 0,.slice none 0 0] 55));have n6:W6.heap[W5.heap.size]?=some (.cells #[.slice none 0 0,.slice none 0 0] 55 (0,0)):=dO e6;have c6:=ak n6 0;have f6:=bY n6 0;obtain⟨W7,e7⟩:=ai (W6.setCell ⟨W5.heap.size,0,none⟩ (.slice (some ⟨W4.heap.size,0,none⟩) 1 1));have n7:W7.heap[W5.heap.size]?=some (.cells #[.slice (some ⟨W4.heap.size,0,none⟩) 1 1,.slice none 0 0] 55 (0,0)):=dK e7 n6;have c7:=ak n7 1;have f7:=bY n7 1;obtain⟨W8,e8⟩:=ai (W7.setCell ⟨W5.heap.size,1,none⟩ (.slice none 0 0));have n8:W8.heap[W5.heap.size]?=some (.cells #[.slice (some ⟨W4.heap.size,0,none⟩) 1 1,.slice none 0 0] 55 (0,0)):=dK e8 n7;have h8:aj W5 W8:=by
  rw[<-e8,<-e7,<-e6];exact(((eH _ _).alloc (bJ _) _).setCell (bJ _) _).setCell (bJ _) _
 obtain⟨W9,e9⟩:=ai (W8.alloc (.map #[] 0));have h9:aj W8 W9:=dM e9;have hm9:bH Tryz.prog 9 W9 W8.heap.size []:=by rw[<-e9];exact bH.made W8
 have n8':=(h9.block _ (dZ n8)).trans n8;have n5':=(h9.block _ (by have:=h8.size;have:=(dZ n5);omega)).trans ((h8.block _ (dZ n5)).trans n5);have n4':=(h9.block _ (by have:=h8.size;have:=h5.size;have:=(dZ n4);omega)).trans ((h8.block _ (by have:=h5.size;have:=(dZ n4);omega)).trans ((h5.block _ (dZ n4)).trans n4));have c9:ay W9 W5.heap.size 0 (.slice (some ⟨W4.heap.size,0,none⟩) 1 1):=ak n8' 0;have d9:ay W9 W4.heap.size 0 (.slice (some ⟨w3.heap.size,0,none⟩) 1 1):=ak n5' 0;have hb39:aj w w3:=H1.o.2.trans ((H2.o.2.trans (hb3.mono hS2)).mono hSz);have hb49:=hb39.trans (h4.mono hb39.size);have hb59:=hb49.trans (h5.mono hb49.size);have hb89:=hb59.trans (h8.mono hb59.size);have hb99:=hb89.trans (h9.mono hb89.size);have KK:=hid (zM (l:=[((-1:Int),(0:Int))]) (v:=.slice (some ⟨w3.heap.size,0,none⟩) 1 1) (w:=W9) ⟨_,_,rfl,by show(1:Nat)<=9223372036854775807;omega,fun _=>⟨w3.heap.size,0,rfl,fun i hi=>by
  obtain rfl:i=0:=by have:i<1:=hi;omega
  exact⟨ak n4' 0,ak n4' 1⟩⟩⟩ (fun x hx=>by
  obtain rfl:x=((-1:Int),(0:Int)):=by simpa using hx
  exact⟨⟨by decide,by decide⟩,by decide,by decide⟩) (by show(1:Nat)<=1000000;omega) (HT.o.on (hb99.mono hBt)) (eX hBt hb99.size))
 have H4:=hid (And.intro n4 h4);have H5:=hid (And.intro n5 h5);have H8:=hid (And.intro n8 h8);have H9:=hid (And.intro h9 hm9);have HB9:=hid hb99;have hmm:=@run_makeMap Tryz.prog;have hmf:∀ (fn:Fn) (first cap:Array Value) (w:World),(Instr.makeFunc fn first cap).run Tryz.prog w=.ok (.func fn first cap) w:=fun _ _ _ _=>rfl;clear hb3 n2' n4 h4 n5 h5 n6 n7 n8 h8 h9 hm9 n8' n5' n4' hb39 hb49 hb59 hb89 hb99 r0 r1 q0 q1;go_wp2_with fail;refine KK.o.mono ?_;rintro e W10 ⟨rfl,hb10⟩;have HM10:=hid (H9.o.2.below hb10);have HB10:=hid hb10;have hkey:=key9 (k:=[((-1:Int),(0:Int))]) (fun x hx=>by
  obtain rfl:x=((-1:Int),(0:Int)):=by simpa using hx
  exact⟨⟨by decide,by decide⟩,by decide,by decide⟩) (by show(1:Nat)<=1000000;omega)
 unfold yh at hkey;clear hb10 KK c9 d9 c6 f6 c7 f7 e4 e5 e6 e7 e8 e9 hmm;go_wp2_with (refine rV rfl (.tmp 20) (.tmp 25) (.const (.int .i64 0)) 121 (.inr rfl) Bf Tryz.underlying121 rfl HM10.o (.string ⟨(jw [((-1:Int),(0:Int))]).toArray⟩) (.int .i64 0) (.string (jw [((-1:Int),(0:Int))])) rfl rfl hkey (by simp) ?_);intro w11 hm11 hg11;have h11:aj W8 w11:=(H9.o.1.trans (HB10.o.mono H9.o.1.size)).grown hg11 (eX H9.o.1.size HB10.o.size) (fun k e=>by injection e with e;omega);obtain⟨W12,e12⟩:=ai (w11.alloc (.cells #[.map none] 121));have n12:W12.heap[w11.heap.size]?=some (.cells #[.map none] 121 (0,0)):=dO e12;have c12:=cell1 n12;have f12:=bY n12 0;obtain⟨W13,e13⟩:=ai (W12.setCell ⟨w11.heap.size,0,none⟩ (.map (some W8.heap.size)));have n13:W13.heap[w11.heap.size]?=some (.cells #[.map (some W8.heap.size)] 121 (0,0)):=dK e13 n12;have h13:aj w11 W13:=by
  rw[<-e13,<-e12];exact((eH _ _).alloc (bJ _) _).setCell (bJ _) _
 have HBF:=hid (LJ H1.o.1 H1.o.2 hbR H2.o.1 H2.o.2 HB3.o rfl H4.o.1 H4.o.2 rfl H5.o.1 H5.o.2 rfl H8.o.1 H8.o.2 rfl hm11 h11 rfl n13 h13);clear hm11 hg11 h11 n12 n13 h13 HM10 HB10 hkey HB9 H9 H8 H5 H4 HB3 H2 H1 hS2 HSR;go_wp2_with fail;clear c12 f12 e12 e13 e1 e2 hmf;generalize W5.heap.size=bA at *;generalize W8.heap.size=bM at *;generalize w11.heap.size=bN at *;generalize w3.heap.size=g0 at *;generalize W4.heap.size=gK at *
 go_loopw [7,8,9,10,11,55,70] (fun t7 t8 t9 t10 t11 t55 t70 wr=>∃ (m:Nat) (K:List KR) (N:List NR) (F:List (Nat×List It)) (kv nv:Value),t7=.int .i64 (m:Int)/\Hid (fB G m/\kers K=(ag G m).ker/\nxts N=(ag G m).nx)/\Hid (BF w.heap.size w wr bA bN bM w.heap.size bR #[.slice gY G.terms.length tc,ov,.slice so G.sorts.length sc,pv,.int .i64 G.start] kv nv K N F (.slice none 0 0) [] Dq)) (fun t7 _ _ _ _ _ _ _=>2001-(RowKit.intOf t7).toNat)
 case atStart=>exact⟨0,_,_,_,_,_,rfl,hid ⟨fB.zero G,rfl,rfl⟩,HBF⟩
 case round =>
  clear HBF;obtain⟨m,K,N,F,kv,nv,rfl,HJ,HBF⟩:=hrel;have hK2:K.length<=2000:=by
   have:=HJ.o.1.le;rw[<-HJ.o.2.1,dI]at this;exact this
  by_cases hlt:m<K.length
  ·have t1:(m:Int)<(K.length:Int):=by omega
   have t2:(0:Int)<=(m:Int):=by omega
   obtain⟨q,hq⟩:∃ q,K[m]?=some q:=⟨_,dH hlt⟩;obtain⟨gk,ck,rfl,hck⟩:=HBF.o.ker (by omega) hq;have HQ:=hid hq;have hql:q.2.2.length<=1573:=aO.lw HVV.o m q.2.2 (by rw[<-HJ.o.2.1];exact List.mem_map.2 ⟨q,List.mem_of_getElem? hq,rfl⟩);have cA0:ay wr bA 0 (.slice (some ⟨gk,0,none⟩) K.length ck):=ak HBF.o.tq 0;obtain⟨we,ewe⟩:=ai (wr.drew);have hbe:aj wr we:=pW ewe;have HBFe:=hid (HBF.o.below hbe);have HS:=hid (show ∀ w',aj we w'->(ay w' w.heap.size 0 (.slice gY G.terms.length tc)/\ay w' w.heap.size 1 ov/\ay w' w.heap.size 2 (.slice so G.sorts.length sc)/\ay w' w.heap.size 3 pv/\ay w' w.heap.size 4 (.int .i64 G.start)/\ay w' bA 0 (.slice (some ⟨gk,0,none⟩) K.length ck)/\ay w' gk m (.slice (some ⟨q.1,0,none⟩) q.2.2.length q.2.1))from fun w' hC=>by
    have hh:=hbe.trans (hC.mono hbe.size);have nG:=(hh.block _ (dZ HBF.o.vP)).trans HBF.o.vP;unfold kval at hck;exact⟨ak nG 0,ak nG 1,ak nG 2,ak nG 3,ak nG 4,cell_below hh cA0,cell_below hh hck⟩)
   have HH0:=HS.o we (eH _ _);have KC:=hid (yC (HGr.o.below HBFe.o.bel) HVV.o (.slice (some ⟨q.1,0,none⟩) q.2.2.length q.2.1) q.2.2 (eQ (HBFe.o.froz (q.1,q.2.2) (HBF.o.inF q (List.mem_of_getElem? hq))) (by omega)) (by omega));clear hq hck hbe HBF;go_wp2_with fail;refine aW 9 (fun w'=>w'.cell? ⟨w.heap.size,0,none⟩=some (.slice gY G.terms.length tc)/\w'.cell? ⟨w.heap.size,1,none⟩=some ov/\w'.cell? ⟨w.heap.size,2,none⟩=some (.slice so G.sorts.length sc)/\w'.cell? ⟨w.heap.size,3,none⟩=some pv/\w'.cell? ⟨w.heap.size,4,none⟩=some (.int .i64 G.start)/\w'.cell? ⟨bA,0,none⟩=some (.slice (some ⟨gk,0,none⟩) K.length ck)/\w'.cell? ⟨gk,m,none⟩=some (.slice (some ⟨q.1,0,none⟩) q.2.2.length q.2.1)) (by kernel_rfl) (by rw[ewe];exact HH0) (fun inv hHeld=>?_);rw[ewe];clear hHeld ewe;iterate 7
    refine aF (v:=?_) rfl (by kernel_rfl) (fun _ _ _ h=>h) (Or.inl ⟨by rfl,?_⟩) HH0 inv (fun inv=>?_)
    rotate_left
    ·intro w hSw;try dsimp only at hSw
     go_simp;try with_reducible rfl
    simp only[Act.put,bP,bQ,bK]
   refine eu (i:=7) rfl (by kernel_rfl) (by decide) inv (fun inv K' hK=>?_);go_simp;refine KC.o.mono ?_;rintro e wc ⟨g,c,L,k1,rfl,k2,k3,k4,k5⟩;have HE:=hid (aO.vN k1);have hLl:L.length<=1573:=by have:=aO.kP G q.2.2;rw[mJ HVV.o,<-HE.o]at this;exact this
   have HLT:=hid (show ∀ x∈L,bu G x=true from fun x hx=>((k1.2 x).1 hx).there);have HBFc:=hid (HBFe.o.below k5);have KS:=hid (H7 (HGr.o.below HBFc.o.bel) HVV.o (eQ (c:=c) k2 (by omega)) HLT.o (by omega));have HH1:=HS.o wc k5;have HK5:=hid k5;refine hK.out _ _ HH1 ?_;clear hK K' HH0 k1 k2 k3 k4 k5 KC;try simp only[Act.put,bP,bQ,bK]
   refine eu (i:=8) rfl (by kernel_rfl) (by decide) inv (fun inv K' hK=>?_);go_simp;refine KS.o.mono ?_;rintro e w4 ⟨b,M,rfl,hst⟩;have HST:=hid hst;have HH2:=HS.o w4 (HK5.o.trans (hst.bel.mono HK5.o.size));have HBF4:=hid (HBFc.o.steps hst);refine hK.out _ _ HH2 ?_;clear hK K' HH1 hst KS;try simp only[Act.put,bP,bQ,bK]
   refine fQ (i:=9) rfl (by kernel_rfl) (fun K' hK=>?_);go_simp;refine hK.out _ _ (fun h=>absurd h (by decide)) ?_;clear hK K';try simp only[Act.put,bP,bQ,bK]
   refine aQ (by kernel_rfl) ?_ _;clear HH2 HS HBFe HBFc HK5;have hmq:(ag G m).ker.getD m []=q.2.2:=by
    rw[<-HJ.o.2.1];exact aO.getD_get (by unfold kers;rw[List.getElem?_map,HQ.o];rfl)
   have HSU:=hid (aO.jb G m);rw[hmq,<-HE.o]at HSU;have hker0:(ag G m).ker.length=K.length:=by rw[<-HJ.o.2.1,dI]
   obtain⟨KER,hKER⟩:=ai ((ag G m).ker);have HKE:=hid hKER;rw[hKER]at HSU hker0;obtain⟨nt,hnt⟩:=ai (G.terms.length);obtain⟨ns,hns⟩:=ai (G.sorts.length);have HNT:=hid hnt;have HNS:=hid hns;have hvp:=bn HVV.o;have hnt60:nt<=60:=by rw[<-hnt];exact hvp.1
   have hns60:ns<=60:=by rw[<-hns];exact hvp.2.1
   rw[hnt,hns]at HBF4;have c0:ay w4 w.heap.size 0 (.slice gY nt tc):=ak HBF4.o.vP 0;have c2:ay w4 w.heap.size 2 (.slice so ns sc):=ak HBF4.o.vP 2;obtain⟨w5,e5⟩:=ai (w4.alloc (.cells (Array.replicate (nt+ns) (.int .i64 0)) 3));have MADE:=Ir (nt+ns) (by omega) w4;rw[e5,Int.natCast_add]at MADE;have HBF5:=hid (HBF4.o.qM (by omega) e5);have c05:ay w5 w.heap.size 0 (.slice gY nt tc):=ak HBF5.o.vP 0;have HSL:=hid (show(cO G).length=nt+ns from by rw[aO.kD,hnt,hns]);obtain⟨F4,hF4⟩:=ai (F++rowsOf (aX G L) M);have HF4:=hid hF4;rw[hF4]at HBF5;clear hKER hnt hns hvp hmq HBF4 e5 hF4;generalize w4.heap.size=gr at *;go_wp2_with fail;clear MADE c0 c2 c05
   go_loopw [9,10,55] (fun t9 t10 t55 wz=>∃ (t:Nat) (K':List KR) (kv':Value),t<=nt/\t55=.int .i64 (t:Int)/\Hid (kers K'=(fF G L KER t).2)/\Hid (BF w.heap.size w wz bA bN bM w.heap.size bR #[.slice gY nt tc,ov,.slice so ns sc,pv,.int .i64 G.start] kv' nv K' N F4 t9 (zints (fF G L KER t).1) (lI 61 b (M.map (lV (aX G L)))))) (fun _ _ t55 _=>nt-(RowKit.intOf t55).toNat)
   case atStart=>exact⟨0,K,_,Nat.zero_le _,rfl,hid (HJ.o.2.1.trans HKE.o),HBF5⟩
   case round =>
    clear HBF5;obtain⟨t,K',kv',htn,rfl,HK',HBF⟩:=hrel;by_cases hlt2:t<nt
    ·have t3:(t:Int)<(nt:Int):=(by omega);have hsy:=(aO.qR (G:=G) (t:=t) (by rw[HNT.o];exact hlt2));have hst2:=aO.qX (c:=L) (ker:=KER) hsy;have HRS:=hid hst2;have hlen:=aO.xJ G L KER t;have hKl:K'.length<=100000:=by
      have h1:=HK'.o;have h2:=congrArg List.length h1;rw[dI]at h2;omega
     have HKL:=hid hKl;obtain⟨v,hrun,hka⟩:=HST.o.look2 HBF.o.mi_ (s:=(t:Int)) (by omega) (by omega) F;rw[HF4.o]at hka;have HRUN:=hid hrun;have KN:=hid (uj HBF.o hka (aO.Cj HVV.o HLT.o) (eX (by unfold aO.aX;rw[List.length_map];exact List.length_filter_le _ _) (eX hLl (by decide))) hKl HT.o hBt);obtain⟨S,hS⟩:=ai ((fF G L KER t).1);obtain⟨KS,hKS⟩:=ai ((fF G L KER t).2);rw[hS,hKS]at HRS;rw[hS]at HBF KN hlen;rw[hKS]at HK' hlen;have hSl:S.length<=1000:=(by omega);obtain⟨num,hnum⟩:=ai (fG (aX G L ((t:Int))) (kers K'));have HNUM:=hid hnum;unfold NumP at KN;rw[hnum]at KN;obtain⟨ro,rc,rfl⟩:=bF HBF.o.row;have hzl:(zints S).length=S.length:=by unfold zints;rw[List.length_map]
     rw[hzl]at HBF KN;clear hst2 hrun hka hsy hS hKS hnum hlen;go_wp2_with (at_lookup;refine pJ rfl (.tmp 60) (.tmp 61) 124 rfl rfl (.int .i64 ((t:Int))) v rfl HRUN.o ?_);refine KN.o.mono ?_;rintro e w6 ⟨K2,kv2,rfl,hk2,hbf6⟩;have HK6:=hid hk2;have HBF6:=hid hbf6;obtain⟨wq,eq⟩:=ai (w6.alloc (.cells #[.int .i64 num.1] 3));have hbq:aj w6 wq:=dM eq;have HNQ:=hid (show wq.heap[w6.heap.size]?=some (.cells #[.int .i64 num.1] 3 (0,0))from by rw[<-eq];exact aK _ _);have HBFq:=hid (HBF6.o.below hbq);have hdq:=HBFq.o.size;have hrow:=HBFq.o.row;have HROW:=hid hrow;have hzl2:(zints S).length<=1000000:=by omega
     clear hk2 hbf6 hbq KN HBF hrow;go_wp2_with (at_builtin;refine dB rfl (.tmp 58) (.tmp 64) 43 3 rfl (.int .i64 0) 8 Tryz.underlying43 info3 rfl (by decide) w.heap.size (.slice ro S.length rc) (zints S) rfl HROW.o w6.heap.size rfl (.int .i64 num.1) HNQ.o rfl hzl2 hdq ?_);intro v7 w7 hown7 hg7 hat7;have HBF7:=hid (HBFq.o.number (ys:=zints S++[.int .i64 num.1]) (by rw[List.length_append,hzl];exact hown7) hg7 hat7);clear hown7 hg7 hat7 eq;have HBF8:=hid (show BF w.heap.size w w7 bA bN bM w.heap.size bR #[.slice gY nt tc,ov,.slice so ns sc,pv,.int .i64 G.start] kv2 nv K2 N F4 v7 (zints (fF G L KER (t+1)).1) (lI 61 b (M.map (lV (aX G L))))from by
      rw[HRS.o,<-HK'.o,HNUM.o];have e1:zints (S++[num.1])=zints S++[.int .i64 num.1]:=by simp[zints]
      rw[e1];exact HBF7.o)
     have HK8:=hid (show kers K2=(fF G L KER (t+1)).2 from by rw[HRS.o,HK6.o,<-HK'.o,HNUM.o]);go_wp2_with fail;refine⟨⟨t+1,K2,kv2,by omega,rfl,HK8,HBF8⟩,?_⟩;show nt-((t:Int)+1).toNat<nt-((t:Int)).toNat;omega
    ·have t3:¬ (t:Int)<(nt:Int):=(by omega);have htt:t=nt:=(by omega);subst htt;have c2:ay wr w.heap.size 2 (.slice so ns sc):=ak HBF.o.vP 2;generalize hwo:wr=wo at *;clear hwo hlt2 htn;obtain⟨t9,ht9⟩:=ai (u9);subst ht9;go_wp2_with fail;clear c2 t3
     go_loopw [9,11,70] (fun t9 t11 t70 wz=>∃ (s:Nat) (K':List KR) (kv':Value),s<=ns/\t70=.int .i64 (s:Int)/\Hid (kers K'=(fF G L KER (t+s)).2)/\Hid (BF w.heap.size w wz bA bN bM w.heap.size bR #[.slice gY t tc,ov,.slice so ns sc,pv,.int .i64 G.start] kv' nv K' N F4 t9 (zints (fF G L KER (t+s)).1) (lI 61 b (M.map (lV (aX G L)))))) (fun _ _ t70 _=>ns-(RowKit.intOf t70).toNat)
     case atStart=>exact⟨0,K',kv',Nat.zero_le _,rfl,HK',HBF⟩
     case round =>
      clear HBF HK';obtain⟨s,K',kv',hsn,rfl,HK',HBF⟩:=hrel;by_cases hlt3:s<ns
      ·have t4:(s:Int)<(ns:Int):=(by omega);have hs60:s<60:=(by omega);have hsy:(cO G)[t+s]?=some (-1-(s:Int)):=by
        have:=aO.qU (G:=G) (s:=s) (by rw[HNS.o];exact hlt3);rw[HNT.o]at this;exact this
       skip
       have hst2:=aO.qX (c:=L) (ker:=KER) hsy;have HRS:=hid hst2;have hlen:=aO.xJ G L KER (t+s);have hKl:K'.length<=100000:=by
        have h1:=HK'.o;have h2:=congrArg List.length h1;rw[dI]at h2;omega
       have HKL:=hid hKl;obtain⟨v,hrun,hka⟩:=HST.o.look2 HBF.o.mi_ (s:=-1-(s:Int)) (by omega) (by omega) F;rw[HF4.o]at hka;have HRUN:=hid hrun;have KN:=hid (uj HBF.o hka (aO.Cj HVV.o HLT.o) (eX (by unfold aO.aX;rw[List.length_map];exact List.length_filter_le _ _) (eX hLl (by decide))) hKl HT.o hBt);obtain⟨S,hS⟩:=ai ((fF G L KER (t+s)).1);obtain⟨KS,hKS⟩:=ai ((fF G L KER (t+s)).2);rw[hS,hKS]at HRS;rw[hS]at HBF KN hlen;rw[hKS]at HK' hlen;have hSl:S.length<=1000:=(by omega);obtain⟨num,hnum⟩:=ai (fG (aX G L (-1-(s:Int))) (kers K'));have HNUM:=hid hnum;unfold NumP at KN;rw[hnum]at KN;obtain⟨ro,rc,rfl⟩:=bF HBF.o.row;have hzl:(zints S).length=S.length:=by unfold zints;rw[List.length_map]
       rw[hzl]at HBF KN;clear hst2 hrun hka hsy hS hKS hnum hlen;go_wp2_with (at_lookup;refine pJ rfl (.tmp 75) (.tmp 77) 124 rfl rfl (.int .i64 (-1-(s:Int))) v rfl HRUN.o ?_);refine KN.o.mono ?_;rintro e w6 ⟨K2,kv2,rfl,hk2,hbf6⟩;have HK6:=hid hk2;have HBF6:=hid hbf6;obtain⟨wq,eq⟩:=ai (w6.alloc (.cells #[.int .i64 num.1] 3));have hbq:aj w6 wq:=dM eq;have HNQ:=hid (show wq.heap[w6.heap.size]?=some (.cells #[.int .i64 num.1] 3 (0,0))from by rw[<-eq];exact aK _ _);have HBFq:=hid (HBF6.o.below hbq);have hdq:=HBFq.o.size;have hrow:=HBFq.o.row;have HROW:=hid hrow;have hzl2:(zints S).length<=1000000:=by omega
       clear hk2 hbf6 hbq KN HBF hrow;go_wp2_with (at_builtin;refine dB rfl (.tmp 73) (.tmp 80) 43 3 rfl (.int .i64 0) 8 Tryz.underlying43 info3 rfl (by decide) w.heap.size (.slice ro S.length rc) (zints S) rfl HROW.o w6.heap.size rfl (.int .i64 num.1) HNQ.o rfl hzl2 hdq ?_);intro v7 w7 hown7 hg7 hat7;have HBF7:=hid (HBFq.o.number (ys:=zints S++[.int .i64 num.1]) (by rw[List.length_append,hzl];exact hown7) hg7 hat7);clear hown7 hg7 hat7 eq;have HBF8:=hid (show BF w.heap.size w w7 bA bN bM w.heap.size bR #[.slice gY t tc,ov,.slice so ns sc,pv,.int .i64 G.start] kv2 nv K2 N F4 v7 (zints (fF G L KER (t+(s+1))).1) (lI 61 b (M.map (lV (aX G L))))from by
        rw[<-Nat.add_assoc,HRS.o,<-HK'.o,HNUM.o];have e1:zints (S++[num.1])=zints S++[.int .i64 num.1]:=by simp[zints]
        rw[e1];exact HBF7.o)
       have HK8:=hid (show kers K2=(fF G L KER (t+(s+1))).2 from by rw[<-Nat.add_assoc,HRS.o,HK6.o,<-HK'.o,HNUM.o]);go_wp2_with fail;refine⟨⟨s+1,K2,kv2,by omega,rfl,HK8,HBF8⟩,?_⟩;show ns-((s:Int)+1).toNat<ns-((s:Int)).toNat;omega
      ·have t4:¬ (s:Int)<(ns:Int):=(by omega);have hss:s=ns:=(by omega);subst hss;have hlenR:(fF G L KER (t+s)).1.length=t+s:=by
        have h1:=(aO.ou G L (cO G) ([],KER)).1;rw[<-aO.xK,HSL.o]at h1;simpa using h1
       have HKF:=hid (show kers K'=(ag G (m+1)).ker from HK'.o.trans (by rw[HSU.o.1,HSL.o]));obtain⟨R,hR⟩:=ai ((fF G L KER (t+s)).1);have HNX:=hid (show(ag G (m+1)).nx=nxts N++[R]from by rw[HSU.o.2,HSL.o,hR,HJ.o.2.2]);rw[hR]at HBF hlenR;have hs1:1<=s:=by
        have:=dR HVV.o;rw[HNS.o]at this;omega
       have hzl:(zints R).length=R.length:=by unfold zints;rw[List.length_map]
       have hrow:=HBF.o.row;rw[hzl]at hrow;obtain⟨g,rc,rfl⟩:∃ g rc,u9=.slice (some ⟨g,0,none⟩) R.length rc:=by
        obtain⟨z,hz⟩:∃ z,R.length=z+1:=⟨R.length-1,by omega⟩;rw[hz]at hrow;obtain⟨g,c,e,_⟩:=kF hrow;exact⟨g,c,by rw[hz];exact e⟩
       have hNl:N.length=m:=by
        have h1:=congrArg List.length HJ.o.2.2;rw[(aO.iL G m).2]at h1;unfold nxts at h1;rw[List.length_map]at h1;exact h1
       have hrN:=HBF.o.EF;rw[List.length_map]at hrN;obtain⟨no,nc,rfl⟩:=bF hrN;have hrK:=HBF.o.rM;rw[List.length_map]at hrK;obtain⟨ko,kc,rfl⟩:=bF hrK;have cA1:ay wr bA 1 (.slice no N.length nc):=ak HBF.o.tq 1;obtain⟨wq,eq⟩:=ai (wr.alloc (.cells #[.slice (some ⟨g,0,none⟩) R.length rc] 43));have hbq:aj wr wq:=dM eq;have HNQ:=hid (show wq.heap[wr.heap.size]?=some (.cells #[.slice (some ⟨g,0,none⟩) R.length rc] 43 (0,0))from by rw[<-eq];exact aK _ _);have HBFq:=hid (HBF.o.below hbq);have hdq:=HBFq.o.size;have HROWN:=hid HBFq.o.EF;have hNm:(N.map nval).length<=1000000:=by rw[List.length_map];omega
       clear hrow hrN hrK hbq hR hlt3 HBF hlenR hNl hzl;go_wp2_with (at_builtin;refine dB rfl (.tmp 84) (.tmp 86) 36 43 rfl (.slice none 0 0) 24 Tryz.underlying36 KY rfl (by decide) w.heap.size (.slice no N.length nc) (N.map nval) rfl HROWN.o wr.heap.size rfl (.slice (some ⟨g,0,none⟩) R.length rc) HNQ.o rfl hNm hdq ?_);intro v7 w7 hown7 hg7 hat7;obtain⟨nA,hbf8⟩:=HBFq.o.JY (by simpa using hown7) hg7 hat7;have cA7:ay w7 bA 1 (.slice no N.length nc):=ak nA 1;have fA7:=bY nA 1;obtain⟨o7,c7,rfl⟩:=bF hown7;obtain⟨w8,e8⟩:=ai (w7.setCell ⟨bA,1,none⟩ (.slice o7 (N.length+1) c7));rw[e8]at hbf8;have HBF8:=hid hbf8;have cA8:ay w8 bA 0 (.slice ko K'.length kc):=ak hbf8.tq 0;have nR:=hbf8.LH;have HNXN:=hid (show nxts (N++[(g,rc,R)])=(ag G (m+1)).nx from by rw[HNX.o];simp[nxts]);clear hown7 hg7 hat7 nA hbf8 eq cA1;by_cases hmany:2000<K'.length
       ·have hm1:(2000:Int)<(K'.length:Int):=(by omega);have HMANY:=hid (show dn G m from⟨HJ.o.1,by rw[HKE.o,hker0];exact hlt,by rw[<-HKF.o,dI];omega⟩);have r0:=ak nR 0;have q0:=bY nR 0;obtain⟨wa,ea⟩:=ai (w8.setCell ⟨bR,0,none⟩ (.slice none 0 0));have na:wa.heap[bR]?=some (.cells #[.slice none 0 0,.slice none 0 0] 55 (0,0)):=dK ea nR;have ra:=ak na 1;have qa:=bY na 1;obtain⟨wb,eb⟩:=ai (wa.setCell ⟨bR,1,none⟩ (.slice none 0 0));have HNB:=hid (show wb.heap[bR]?=some (.cells #[.slice none 0 0,.slice none 0 0] 55 (0,0))from by rw[<-eb];exact heap_setCell_same _ _ 1 _ 55 _ na);have hle:w.heap.size<=bR:=(HBF8.o.foot.lt 9 _ rfl bR (List.mem_singleton.2 rfl)).1;have HFIN:=hid (show aj w wb from by
         rw[<-eb,<-ea];exact(HBF8.o.bel.setCell hle _).setCell hle _)
        clear na nR;go_wp2_with fail;refine bodyPost_ret (v:=.tuple #[wu,.int .i64 4]) (uQ rfl _ _ bR _ _ 4 rfl rfl HNB.o) rfl ?_;exact⟨HFIN.o,.inr ⟨HVV.o,m,.inl ⟨HMANY.o,rfl⟩⟩⟩
       ·have hm1:¬ (2000:Int)<(K'.length:Int):=(by omega);have hm2:K'.length<=2000:=(by omega);have HBS:=hid (show fB G (m+1)from HJ.o.1.succ (by rw[HKE.o,hker0];exact hlt) (by rw[<-HKF.o,dI];exact hm2));clear nR;go_wp2_with fail;refine⟨⟨m+1,K',_,F4,_,_,rfl,hid ⟨HBS.o,HKF.o,HNXN.o⟩,by rw[HNT.o,HNS.o];exact HBF8⟩,?_⟩;show 2001-((m:Int)+1).toNat<2001-((m:Int)).toNat;omega
  ·have t1:¬ (m:Int)<(K.length:Int):=by omega
   have HOK:=hid (show aN G m from⟨HJ.o.1,by rw[<-HJ.o.2.1,dI];exact hlt⟩);have hrN:=HBF.o.EF;rw[List.length_map]at hrN;obtain⟨no,nc,rfl⟩:=bF hrN;have hrK:=HBF.o.rM;rw[List.length_map]at hrK;obtain⟨ko,kc,rfl⟩:=bF hrK;have cA0:ay wr bA 0 (.slice ko K.length kc):=ak HBF.o.tq 0;have cA1:ay wr bA 1 (.slice no N.length nc):=ak HBF.o.tq 1;have nR:=HBF.o.LH;have r0:=ak nR 0;have q0:=bY nR 0;obtain⟨wa,ea⟩:=ai (wr.setCell ⟨bR,0,none⟩ (.slice ko K.length kc));have na:wa.heap[bR]?=some (.cells #[.slice ko K.length kc,.slice none 0 0] 55 (0,0)):=dK ea nR;have ra:=ak na 1;have qa:=bY na 1;obtain⟨wb,eb⟩:=ai (wa.setCell ⟨bR,1,none⟩ (.slice no N.length nc));have HNB:=hid (show wb.heap[bR]?=some (.cells #[.slice ko K.length kc,.slice no N.length nc] 55 (0,0))from by rw[<-eb];exact heap_setCell_same _ _ 1 _ 55 _ na);have f1:=iq (k:=0) (v:=.slice ko K.length kc) HBF.o.foot 9 rfl;have f2:=iq (k:=1) (v:=.slice no N.length nc) f1 9 rfl;rw[ea,eb]at f2;have HFIN:=hid f2.bel;have hNl:N.length=m:=by
    have h1:=congrArg List.length HJ.o.2.2;rw[(aO.iL G m).2]at h1;unfold nxts at h1;rw[List.length_map]at h1;exact h1
   have hKm:K.length=m:=by rw[<-dI,HJ.o.2.1];exact HOK.o.inv.2.2
   have haut:=aut_of (B:=w.heap.size) (F:=F) (f2.ok 3 _ rfl) (f2.ok 4 _ rfl) (f2.ok 5 _ rfl) (f2.ok 6 _ rfl) HBF.o.inF (by omega) (by omega) (fun k hk=>by
    have:=aO.lw HVV.o m k (by rw[<-HJ.o.2.1];exact hk);omega) (fun R hR=>by
    have hR2:R∈(ag G m).nx:=by rw[<-HJ.o.2.2];exact hR
    obtain⟨i,hi⟩:=List.mem_iff_getElem?.1 hR2;have h3:=HOK.o.inv.1.rl i R hi;rw[aO.kD]at h3;have h4:=bn HVV.o;exact⟨by omega,aO.Dj HOK.o R hR2⟩)
   rw[HJ.o.2.1,HJ.o.2.2]at haut;have HAUT:=hid haut;clear hrN hrK na nR f1 f2 haut hNl hKm;go_wp2_with fail;refine bodyPost_ret (v:=.tuple #[.agg #[.slice ko K.length kc,.slice no N.length nc],.int .i64 0]) (uQ rfl _ _ bR _ _ 0 rfl rfl HNB.o) rfl ?_;exact⟨HFIN.o,.inr ⟨HVV.o,m,.inr ⟨HOK.o,_,rfl,HAUT.o⟩⟩⟩
end Go.Proofs.YticmnfmijdgmbaaGreatDoor
