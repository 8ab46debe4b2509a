import Derived.Lib.SliceRun
import Derived.Test.YticmnfmijdgmbaaGreatDoorSf
set_option linter.all false
set_option maxRecDepth 100000
set_option maxHeartbeats 8000000
namespace Go.Proofs.YticmnfmijdgmbaaGreatDoor
open Go Go.RowKit Go.Lib
open aO (It Less dF)
theorem rQ (b:Nat):∀ (vs:List Value) (o:Nat) (w:World) (m:Nat),jv m b w (w.setCells b o vs)
 | [],o,w,m=>jv.refl _ _ _
 | v::r,o,w,m=>by
  have h:=rQ b r (o+1) (w.setCell ⟨b,o,none⟩ v) m;exact⟨h.os,h.tape,h.output,eX (by simp) h.size,fun g hg hne=>(h.block g hg hne).trans (Below.heap_setCell _ _ _ _ hne)⟩
theorem zero37 (w:World):(zeroValue 60).run Tryz.prog w=.ok (.agg #[.int .i64 0,.int .i64 0]) w:=by
 obtain⟨i,hi,h0,_,_⟩:=info_parts Bo;unfold zeroValue;simp[typeInfo,hi,h0]
theorem CE (w:World)(ty:TypeId)(b o n c:Nat)(hn:0<n)(hc:∀ j,j<n*2->(w.cell? ⟨b,o+j,none⟩).isSome=true)(hf:∀ j,j<n*2->w.frozen? ⟨b,o+j,none⟩=false) :
  (Builtin.clear_ #[45] ty #[.slice (some ⟨b,o,none⟩) n c]).run Tryz.prog w=.ok (.tuple #[]) (w.setCells b o (List.replicate (n*2) (.int .i64 0))):=by
 have hzc:(Builtin.zeroCells (Value.agg #[.int .i64 0,.int .i64 0]).cells n).toList=List.replicate (n*2) (.int .i64 0):=by
  have e:(Value.agg #[.int .i64 0,.int .i64 0]).cells=#[.int .i64 0,.int .i64 0]:=rfl;rw[e];simp[Builtin.zeroCells];apply List.ext_getElem
  ·simp
  ·intro i h1 h2;simp;rcases Nat.mod_two_eq_zero_or_one i with hm | hm<;>simp[hm]
 have hst:=run_storeCells_cells (P:=Tryz.prog) b o (List.replicate (n*2) (.int .i64 0)) 0 w (by simpa using hc) (by simpa using hf) (by intro v hv';rw[List.eq_of_mem_replicate hv'];rfl);simp only[Nat.add_zero]at hst;obtain⟨m,rfl⟩:∃ m,n=m+1:=⟨n-1,by omega⟩;simp[Builtin.clear_,run_underlying Tryz.underlying45,zero37,hzc,hst]
theorem qW (w:World)(g a b:Nat)(v:Value)(h:a≠b):(w.setCell ⟨g,a,none⟩ v).cell? ⟨g,b,none⟩=w.cell? ⟨g,b,none⟩:=World.cell?_setCell_other w _ _ v (by simp only[ne_eq,Addr.mk.injEq,true_and,and_true];exact h)
theorem JC (w:World)(g a:Nat)(v u:Value)(h:w.cell? ⟨g,a,none⟩=some u):(w.setCell ⟨g,a,none⟩ v).cell? ⟨g,a,none⟩=some v:=World.cell?_setCell_same w _ v h
theorem stood37:Tryz.prog.stoodInHeld 60=false:=by kernel_rfl
theorem eql3 (n:Nat)(x y:Int)(w:World):(Op.equalIn (n+1) 3 (.int .i64 x) (.int .i64 y)).run Tryz.prog w=.ok (x == y) w:=by
 unfold Op.equalIn;simp[run_underlying Tryz.underlying3]
theorem Gt (u v:Value)(w:World):(part 3 #[u,v] 0).run Tryz.prog w=.ok u w/\(part 3 #[u,v] 1).run Tryz.prog w=.ok v w:=by
 constructor<;>(unfold part;simp[isAgg,run_underlying Tryz.underlying3])
theorem eql37 (a b c d:Int)(w:World):(Op.equalIn 10000 60 (.agg #[.int .i64 a,.int .i64 b]) (.agg #[.int .i64 c,.int .i64 d])).run Tryz.prog w=.ok (decide (a=c) && decide (b=d)) w:=by
 have h3:∀ x y w,(Op.equalIn 9999 3 (.int .i64 x) (.int .i64 y)).run Tryz.prog w=.ok (x == y) w:=fun x y w=>eql3 9998 x y w;have p0:=fun u v w=>(Gt u v w).1;have p1:=fun u v w=>(Gt u v w).2;show(Op.equalIn (9998+1+1) 60 _ _).run Tryz.prog w=_;unfold Op.equalIn;simp[run_underlying Tryz.underlying60,stood37,h3,p0,p1];by_cases e1:a=c<;>by_cases e2:b=d<;>simp[e1,e2]
structure pX (w0 w:World) (g:Nat) (l:List It) (p k:Nat):Prop where
 len:(dF (l.take p)).length=k
 low:je w g (dF (l.take p))
 high:∀ i (hi:i<l.length),p-1<=i->w.cell? ⟨g,i*2,none⟩=some (.int .i64 l[i].1)/\w.cell? ⟨g,i*2+1,none⟩=some (.int .i64 l[i].2)
 free:∀ i,i<l.length->(w.cell? ⟨g,i*2,none⟩).isSome=true/\(w.cell? ⟨g,i*2+1,none⟩).isSome=true/\w.frozen? ⟨g,i*2,none⟩=false/\w.frozen? ⟨g,i*2+1,none⟩=false
 kept:jv w0.heap.size g w0 w
 lt:k+1<=p
theorem pX.below {w0 w w':World}{g:Nat}{l:List It}{p k:Nat}(h:pX w0 w g l p k)(hg:g<w.heap.size)(hb:aj w w'):pX w0 w' g l p k:=by
 have hb2:=hb.block g hg;refine⟨h.len,h.low.kept hb2,fun i hi hp=>?_,fun i hi=>?_,h.kept.below h.kept.size hb,h.lt⟩
 ·exact⟨(World.cell?_of_block (a:=⟨g,_,none⟩) hb2).trans (h.high i hi hp).1,(World.cell?_of_block (a:=⟨g,_,none⟩) hb2).trans (h.high i hi hp).2⟩
 ·rw[World.cell?_of_block (a:=⟨g,i*2,none⟩) hb2,World.cell?_of_block (a:=⟨g,i*2+1,none⟩) hb2,World.frozen?_of_block (a:=⟨g,i*2,none⟩) hb2,World.frozen?_of_block (a:=⟨g,i*2+1,none⟩) hb2];exact h.free i hi
theorem pX.start {w:World}{g:Nat}{l:List It}{m:Nat}(hR:je w g l)(hm:m+1<l.length)(hne:∀ j x y,j<m->l[j]?=some x->l[j+1]?=some y->x≠y)(he:l[m]?=l[m+1]?):pX w w g l (m+2) (m+1):=by
 have hid:dF (l.take (m+1))=l.take (m+1):=aO.yB fun j x y hx hy=>by
  have h1:=(List.getElem?_eq_some_iff.1 hy).1;rw[List.length_take]at h1;rw[List.getElem?_take_of_lt (by omega)]at hx hy;exact hne j x y (by omega) hx hy
 have hc:dF (l.take (m+2))=l.take (m+1):=by
  obtain⟨x,hx⟩:∃ x,l[m+1]?=some x:=⟨_,dH hm⟩;rw[aO.sV hx (he.trans hx),if_pos rfl,hid]
 refine⟨?_,?_,fun i hi _=>⟨(hR i hi).1,(hR i hi).2.1⟩,fun i hi=>?_,jv.refl _ _ _,bJ _⟩
 ·rw[hc,List.length_take];omega
 ·rw[hc];intro i hi;rw[List.length_take]at hi;have:=hR i (by omega);rw[List.getElem_take];exact this
 ·obtain⟨h1,h2,h3,h4⟩:=hR i hi;rw[h1,h2];exact⟨rfl,rfl,h3,h4⟩
theorem pX.skip {w0 w:World}{g:Nat}{l:List It}{p k:Nat}{x:It}(h:pX w0 w g l (p+1) k)(hx:l[p+1]?=some x)(hy:l[p]?=some x):pX w0 w g l (p+2) k:=by
 have e:=aO.sV hx hy;rw[if_pos rfl]at e;have hlt:=h.lt;refine⟨by rw[e];exact h.len,by rw[e];exact h.low,fun i hi hp=>h.high i hi (by omega),h.free,h.kept,by omega⟩
theorem pX.keep {w0 w:World}{g:Nat}{l:List It}{p k:Nat}{x y:It}(h:pX w0 w g l (p+1) k)(hx:l[p+1]?=some x)(hy:l[p]?=some y)(hne:x≠y):pX w0 ((w.setCell ⟨g,k*2,none⟩ (.int .i64 x.1)).setCell ⟨g,k*2+1,none⟩ (.int .i64 x.2)) g l (p+2) (k+1):=by
 have e:=aO.sV hx hy;rw[if_neg hne]at e;have hlt:=h.lt;have hpl:=(List.getElem?_eq_some_iff.1 hx).1;obtain⟨f1,f2,f3,f4⟩:=h.free k (by omega);obtain⟨u,hu⟩:=Option.isSome_iff_exists.1 f1;obtain⟨v,hv⟩:=Option.isSome_iff_exists.1 f2;have far0:∀ i,i≠k->((w.setCell ⟨g,k*2,none⟩ (.int .i64 x.1)).setCell ⟨g,k*2+1,none⟩ (.int .i64 x.2)).cell? ⟨g,i*2,none⟩=w.cell? ⟨g,i*2,none⟩:=fun i hi=>by
  rw[qW _ _ _ _ _ (by omega),qW _ _ _ _ _ (by omega)]
 have far1:∀ i,i≠k->((w.setCell ⟨g,k*2,none⟩ (.int .i64 x.1)).setCell ⟨g,k*2+1,none⟩ (.int .i64 x.2)).cell? ⟨g,i*2+1,none⟩=w.cell? ⟨g,i*2+1,none⟩:=fun i hi=>by
  rw[qW _ _ _ _ _ (by omega),qW _ _ _ _ _ (by omega)]
 have here0:((w.setCell ⟨g,k*2,none⟩ (.int .i64 x.1)).setCell ⟨g,k*2+1,none⟩ (.int .i64 x.2)).cell? ⟨g,k*2,none⟩=some (.int .i64 x.1):=by
  rw[qW _ _ _ _ _ (by omega)];exact JC _ _ _ _ _ hu
 have here1:((w.setCell ⟨g,k*2,none⟩ (.int .i64 x.1)).setCell ⟨g,k*2+1,none⟩ (.int .i64 x.2)).cell? ⟨g,k*2+1,none⟩=some (.int .i64 x.2):=by
  refine JC _ _ _ _ v ?_;rw[qW _ _ _ _ _ (by omega)];exact hv
 refine⟨by rw[e,List.length_append,h.len];rfl,?_,fun i hi hp=>?_,fun i hi=>?_,?_,by omega⟩
 ·rw[e];intro i hi;rw[List.length_append,h.len]at hi;have hi':i<k+1:=hi;rw[World.frozen?_setCell,World.frozen?_setCell,World.frozen?_setCell,World.frozen?_setCell];by_cases hik:i<k
  ·have hg:=h.low i (by rw[h.len];exact hik);rw[List.getElem_append_left (by rw[h.len];exact hik)];refine⟨?_,?_,hg.2.2⟩
   ·rw[far0 i (by omega)];exact hg.1
   ·rw[far1 i (by omega)];exact hg.2.1
  ·obtain rfl:i=k:=by omega
   have hk:(dF (l.take (p+1))++[x])[i]=x:=by
    rw[List.getElem_append_right (by rw[h.len];exact bJ _)];simp[h.len]
   rw[hk];exact⟨here0,here1,f3,f4⟩
 ·have hg:=h.high i hi (by omega);rw[far0 i (by omega),far1 i (by omega)];exact hg
 ·have hg:=h.free i hi;rw[World.frozen?_setCell,World.frozen?_setCell,World.frozen?_setCell,World.frozen?_setCell];by_cases hik:i=k
  ·subst hik;rw[here0,here1];exact⟨rfl,rfl,f3,f4⟩
  ·rw[far0 i hik,far1 i hik];exact hg
 ·exact h.kept.trans ⟨rfl,rfl,rfl,by simp,fun q _ hq=>(Below.heap_setCell _ _ _ _ hq).trans (Below.heap_setCell _ _ _ _ hq)⟩
theorem pX.DW {w0 w:World}{g:Nat}{l:List It}{k:Nat}(h:pX w0 w g l l.length k)(vs:List Value):je (w.setCells g (k*2) vs) g (dF l)/\(dF l).length=k/\jv w0.heap.size g w0 (w.setCells g (k*2) vs):=by
 have e:l.take l.length=l:=List.take_length;have hl:=h.len;have hlow:=h.low;rw[e]at hl hlow;refine⟨fun i hi=>?_,hl,h.kept.trans (rQ g vs _ w _)⟩;obtain⟨h1,h2,h3,h4⟩:=hlow i hi;rw[World.frozen?_setCells,World.frozen?_setCells,World.cell?_setCells_out g vs (k*2) w ⟨g,i*2,none⟩ (fun _ _=>.inl (by show i*2<k*2;omega)),World.cell?_setCells_out g vs (k*2) w ⟨g,i*2+1,none⟩ (fun _ _=>.inl (by show i*2+1<k*2;omega))];exact⟨h1,h2,h3,h4⟩
def CompP (g c:Nat)(l:List It)(w:World)(e:Ending)(w':World):Prop:=e=.returned (.slice (some ⟨g,0,none⟩) (dF l).length c)/\je w' g (dF l)/\jv w.heap.size g w w'
theorem DY {w:World}{g c:Nat}{l:List It}(hR:je w g l)(hg:g<w.heap.size)(hc:l.length<=c)(hl:l.length<=1000000)(hcc:c<=9223372036854775807) :
  Calls Tryz.prog 132 #[.slice (some ⟨g,0,none⟩) l.length c] w (CompP g c l w):=by
 obtain⟨n,hn⟩:=ai (l.length);have HN:=hid hn;have HR:=hid hR;have HG:=hid hg;rw[hn]at hc hl ⊢;clear hn hR;by_cases h2:n<2
 ·have h1:(n:Int)<2:=by omega
  have HE:=hid (show dF l=l from by
   have:=HN.o
   match l,this with
   | [],_=>rfl
   | [x],_=>rfl
   | _::_::_,h=>simp at h;omega)
  go_enter Tryz.func132,Tryz.ntmps132;go_wp2_with fail;go_ret;refine⟨by rw[HE.o,HN.o];rfl,by rw[HE.o];exact HR.o,jv.refl _ _ _⟩
 ·have h1:¬ (n:Int)<2:=by omega
  go_enter Tryz.func132,Tryz.ntmps132;go_wp2_with fail
  go_loopw [3] (fun t3 wr=>∃ m:Nat,m+1<=n/\t3=.int .i64 ((m:Int)+1)/\Hid (∀ j x y,j<m->l[j]?=some x->l[j+1]?=some y->x≠y)/\Hid (aj w wr)) (fun t3 _=>n+1-(RowKit.intOf t3).toNat)
  case atStart=>exact⟨0,by omega,rfl,hid (fun j x y hj=>absurd hj (Nat.not_lt_zero j)),hid (eH _ _)⟩
  case round =>
   obtain⟨m,hm,rfl,HD,HB⟩:=hrel;have hle:=HB.o.size;by_cases hlt:m+1<n
   ·have g1:(m:Int)+1<(n:Int):=(by omega);have m0:(0:Int)<=(m:Int):=(by omega);have m1:(m:Int)<(n:Int):=(by omega);have m2:(0:Int)<=(m:Int)+1:=(by omega);have hRr:je wr g l:=HR.o.kept (HB.o.block g HG.o);obtain⟨a0,a1,_,_⟩:=hRr m (by rw[HN.o];exact m1 |> fun _=>by omega);obtain⟨b0,b1,_,_⟩:=hRr (m+1) (by rw[HN.o];exact hlt);obtain⟨x,hx⟩:∃ x,l[m]?=some x:=⟨_,dH (by rw[HN.o];omega)⟩;obtain⟨y,hy⟩:∃ y,l[m+1]?=some y:=⟨_,dH (by rw[HN.o];exact hlt)⟩;rw[(List.getElem?_eq_some_iff.1 hx).2]at a0 a1;rw[(List.getElem?_eq_some_iff.1 hy).2]at b0 b1;have hgr:g<wr.heap.size:=Nat.lt_of_lt_of_le HG.o hle;have HXY:=hid (And.intro hx hy);have HS0:=hid (fun(w':World) (h:aj wr w')=>iM h hgr a0);have HS1:=hid (fun(w':World) (h:aj wr w')=>iM h hgr a1);have HS2:=hid (fun(w':World) (h:aj wr w')=>iM h hgr b0);have HS3:=hid (fun(w':World) (h:aj wr w')=>iM h hgr b1);clear a0 a1 b0 b1 hx hy hRr hgr;obtain⟨x1,x2⟩:=x;obtain⟨y1,y2⟩:=y;dsimp only at HS0 HS1 HS2 HS3;obtain⟨be,hbe⟩:=ai ((decide (y1=x1) && decide (y2=x2)));have hE:∀ w',(Op.equalIn 10000 60 (.agg #[.int .i64 y1,.int .i64 y2]) (.agg #[.int .i64 x1,.int .i64 x2])).run Tryz.prog w'=.ok be w':=fun w'=>by rw[<-hbe];exact eql37 _ _ _ _ w'
    have HBE:=hid (show be=true↔(y1,y2)=(x1,x2)from by rw[<-hbe];simp);clear hbe;have hwm:IntKind.i64.wrap (m:Int)=(m:Int):=by rw[IntKind.wrap_i64];omega
    go_wp2_with fail;refine ah (by kernel_rfl) (by kernel_rfl) ?_;repeat(first
              | (refine BigFrame.wpQuiet_skip (by rfl) ?_;try simp only[Act.put,bP,bQ,bK,hwm])
              | (refine BigFrame.wpQuiet_want (by rfl) (fun K hK=>?_)
                 apply Exists.intro;refine⟨fun w' hC=>?_,hK _ ?_⟩
                 . first
                    | (have f0':=HS0.o w' hC
                       have f1':=HS1.o w' hC;have f2':=HS2.o w' hC;have f3':=HS3.o w' hC;unfold Oper.quietAt;go_simp
                       first
                         | with_reducible rfl
                         | done)
                 clear hK K;try simp only[Act.put,bP,bQ,bK,hwm]))
    refine wpQuiet_nil ?_;intro w6 hb6;have HB6:=hid (HB.o.trans (hb6.mono hle));clear hb6 HS0 HS1 HS2 HS3 hwm hE;cases be with
    | true =>
     have hxy:=HBE.o.1 (by first | rfl | trivial);go_wp2_with fail;obtain⟨R,hR⟩:=ai (n-(m+1));obtain⟨C2,hC2⟩:=ai (c-(m+1));rw[hR,hC2];have HRR:=hid hR;have hRp:1<=R:=(by omega);have hRb:R<=1000000:=(by omega);have HST:=hid (show pX w w6 g l (m+2) (m+1)from by
      have h0:=pX.start (w:=w) HR.o (m:=m) (by rw[HN.o];exact hlt) HD.o (by
       rw[HXY.o.1,HXY.o.2];exact congrArg some hxy.symm)
      exact h0.below HG.o HB6.o)
     clear hR hC2 hxy
     go_loopw [3,5] (fun t3 t5 wz=>∃ q k:Nat,t5=.int .i64 ((q:Int)+1)/\t3=.int .i64 (k:Int)/\q+1<=R/\Hid (pX w wz g l (m+q+2) k)) (fun _ t5 _=>R+1-(RowKit.intOf t5).toNat)
     case atStart=>exact⟨0,m+1,rfl,rfl,hRp,HST⟩
     case round =>
      clear HST;obtain⟨q,k,rfl,rfl,hq,HC⟩:=hrel;have hgz:g<wr.heap.size:=Nat.lt_of_lt_of_le HG.o HC.o.kept.size;have hkp:=HC.o.lt;by_cases hlq:q+1<R
      ·have q0:(0:Int)<=(q:Int):=(by omega);have q1:(q:Int)<(R:Int):=(by omega);have q2:(q:Int)+1<(R:Int):=(by omega);have q3:(0:Int)<=(q:Int)+1:=(by omega);have k0:(0:Int)<=(k:Int):=(by omega);have hpn:m+q+2<l.length:=by rw[HN.o];have:=HRR.o;omega
       have k1:(k:Int)<(n:Int):=by have:=HN.o;omega
       have k2:k<n:=(by omega);obtain⟨b0,b1⟩:=HC.o.high (m+q+2) hpn (by omega);obtain⟨a0,a1⟩:=HC.o.high (m+q+1) (by omega) (by omega);obtain⟨u,hu⟩:∃ u,l[m+q+1]?=some u:=⟨_,dH (by omega)⟩;obtain⟨v,hv⟩:∃ v,l[m+q+2]?=some v:=⟨_,dH hpn⟩;rw[(List.getElem?_eq_some_iff.1 hu).2,show(m+q+1)*2=(m+1)*2+q*2 by omega]at a0 a1;rw[(List.getElem?_eq_some_iff.1 hv).2,show(m+q+2)*2=(m+1)*2+(q+1)*2 by omega]at b0 b1;have HUV:=hid (And.intro hu hv);have HS0:=hid (fun(w':World) (h:aj wr w')=>iM h hgz a0);have HS1:=hid (fun(w':World) (h:aj wr w')=>iM h hgz a1);have HS2:=hid (fun(w':World) (h:aj wr w')=>iM h hgz b0);have HS3:=hid (fun(w':World) (h:aj wr w')=>iM h hgz b1);obtain⟨u1,u2⟩:=u;obtain⟨v1,v2⟩:=v;dsimp only at HS0 HS1 HS2 HS3;obtain⟨bf,hbf⟩:=ai ((decide (v1=u1) && decide (v2=u2)));have hE:∀ w',(Op.equalIn 10000 60 (.agg #[.int .i64 v1,.int .i64 v2]) (.agg #[.int .i64 u1,.int .i64 u2])).run Tryz.prog w'=.ok bf w':=fun w'=>by rw[<-hbf];exact eql37 _ _ _ _ w'
       have HBF:=hid (show bf=true↔(v1,v2)=(u1,u2)from by rw[<-hbf];simp);have hwm:IntKind.i64.wrap (q:Int)=(q:Int):=by rw[IntKind.wrap_i64];omega
       clear hbf hu hv a0 a1 b0 b1;go_wp2_with fail;refine ah (by kernel_rfl) (by kernel_rfl) ?_;repeat(first
                 | (refine BigFrame.wpQuiet_skip (by rfl) ?_;try simp only[Act.put,bP,bQ,bK,hwm])
                 | (refine BigFrame.wpQuiet_want (by rfl) (fun K hK=>?_)
                    apply Exists.intro;refine⟨fun w' hC=>?_,hK _ ?_⟩
                    . first
                       | (have f0':=HS0.o w' hC
                          have f1':=HS1.o w' hC;have f2':=HS2.o w' hC;have f3':=HS3.o w' hC;unfold Oper.quietAt;go_simp
                          first
                            | with_reducible rfl
                            | done)
                    clear hK K;try simp only[Act.put,bP,bQ,bK,hwm]))
       refine wpQuiet_nil ?_;intro w7 hb7;have HC7:=hid (HC.o.below hgz hb7);have c0:=HS2.o w7 hb7;have c1:=HS3.o w7 hb7;clear hb7 HS0 HS1 HS2 HS3 hwm hE;cases bf with
       | true =>
        have hxy:=HBF.o.1 (by first | rfl | trivial);have HK:=hid (show pX w w7 g l (m+(q+1)+2) k from by
         have h:=HC7.o.skip (p:=m+q+1) HUV.o.2 (by rw[HUV.o.1,hxy]);rw[show m+(q+1)+2=m+q+1+2 by omega];exact h)
        clear hxy c0 c1;go_wp2_with fail;refine⟨⟨q+1,k,rfl,rfl,by omega,HK⟩,?_⟩;show R+1-((q:Int)+1+1).toNat<R+1-((q:Int)+1).toNat;omega
       | false =>
        have hxy:(v1,v2)≠(u1,u2):=fun h=>absurd (HBF.o.2 h) (by simp);obtain⟨f1,f2,f3,f4⟩:=HC7.o.free k (by rw[HN.o];exact k2);obtain⟨d0,hd0⟩:=Option.isSome_iff_exists.1 f1;obtain⟨d1,hd1⟩:=Option.isSome_iff_exists.1 f2;have HK:=hid (show pX w ((w7.setCell ⟨g,k*2,none⟩ (.int .i64 v1)).setCell ⟨g,k*2+1,none⟩ (.int .i64 v2)) g l (m+(q+1)+2) (k+1)from by
         have h:=HC7.o.keep (p:=m+q+1) HUV.o.2 HUV.o.1 hxy;rw[show m+(q+1)+2=m+q+1+2 by omega];exact h)
        clear hxy f1 f2;go_wp2_with fail;refine⟨⟨q+1,k+1,rfl,rfl,by omega,HK⟩,?_⟩;show R+1-((q:Int)+1+1).toNat<R+1-((q:Int)+1).toNat;omega
      ·have q2:¬ (q:Int)+1<(R:Int):=(by omega);have hpn:m+q+2=l.length:=by rw[HN.o];have:=HRR.o;omega
       have hCe:=HC.o;rw[hpn]at hCe;have hkn:k+1<=n:=by rw[<-HN.o];exact hCe.lt
       have HEND:=hid (hCe.DW (List.replicate ((n-k)*2) (.int .i64 0)));have hcl:∀ ty,(Builtin.clear_ #[45] ty #[.slice (some ⟨g,k*2,none⟩) (n-k) (c-k)]).run Tryz.prog wr=.ok (.tuple #[]) (wr.setCells g (k*2) (List.replicate ((n-k)*2) (.int .i64 0))):=fun ty =>
        CE wr ty g (k*2) (n-k) (c-k) (by omega) (fun j hj=>by
         obtain⟨f1,f2,_,_⟩:=hCe.free (k+j / 2) (by rw[HN.o];omega);rcases Nat.mod_two_eq_zero_or_one j with hm | hm
         ·rw[show k*2+j=(k+j / 2)*2 by omega];exact f1
         ·rw[show k*2+j=(k+j / 2)*2+1 by omega];exact f2) (fun j hj=>by
         obtain⟨_,_,f1,f2⟩:=hCe.free (k+j / 2) (by rw[HN.o];omega);rcases Nat.mod_two_eq_zero_or_one j with hm | hm
         ·rw[show k*2+j=(k+j / 2)*2 by omega];exact f1
         ·rw[show k*2+j=(k+j / 2)*2+1 by omega];exact f2)
       have k0:(0:Int)<=(k:Int):=(by omega);have k1:(k:Int)<=(n:Int):=(by omega);have k2:(k:Int)<=(c:Int):=(by omega);have k3:k<=n:=(by omega);have k4:k<=c:=(by omega);have n4:n<=c:=hc;clear hCe;go_wp2_with fail;go_ret;refine⟨?_,HEND.o.1,HEND.o.2.2⟩;rw[HEND.o.2.1];rfl
    | false =>
     have hxy:(y1,y2)≠(x1,x2):=fun h=>absurd (HBE.o.2 h) (by simp);have HXN:=hid hxy;clear hxy;go_wp2_with fail;refine⟨⟨m+1,by omega,rfl,hid (fun j x y hj hx hy=>?_),HB6⟩,?_⟩
     ·by_cases hjm:j<m
      ·exact HD.o j x y hjm hx hy
      ·obtain rfl:j=m:=by omega
       rw[HXY.o.1]at hx;rw[HXY.o.2]at hy;injection hx with hx;injection hy with hy;subst hx hy;exact fun e=>HXN.o e.symm
     ·show n+1-((m:Int)+1+1).toNat<n+1-((m:Int)+1).toNat;omega
   ·have g1:¬ (m:Int)+1<(n:Int):=(by omega);have HID:=hid (show dF l=l from aO.yB fun j x y hx hy=>HD.o j x y (by
     have h1:=(List.getElem?_eq_some_iff.1 hy).1;rw[HN.o]at h1;omega) hx hy)
    go_wp2_with fail;go_ret;refine⟨by rw[HID.o,HN.o];rfl,by rw[HID.o];exact HR.o.kept (HB.o.block g HG.o),?_⟩;exact(jv.refl _ _ _).below (bJ _) HB.o
open aO (It Less iQ dF)
def RisingP (g c:Nat)(l:List It)(w:World)(e:Ending)(w':World):Prop:=∃ l',iQ l'/\(∀ x,x∈l'↔x∈l)/\l'.length<=l.length/\e=.returned (.slice (some ⟨g,0,none⟩) l'.length c)/\je w' g l'/\jv w.heap.size g w w'
theorem EG {w:World}{g c:Nat}{l:List It}(hR:je w g l)(hg:g<w.heap.size)(hc:l.length<=c)(hl:l.length<=1000000)(hcc:c<=9223372036854775807) :
  Calls Tryz.prog 106 #[.slice (some ⟨g,0,none⟩) l.length c] w (RisingP g c l w):=by
 have K:=hid (Jy (c:=c) hR hg (by omega));have HC:=hid hc;have HG:=hid hg;clear hR hg;go_enter Tryz.func106,Tryz.ntmps106;go_wp2_with fail;refine K.o.mono ?_;rintro e w1 ⟨rfl,l1,hm,hl1,ho,hr1,hk1⟩;have K2:=hid (DY (c:=c) hr1 (Nat.lt_of_lt_of_le HG.o hk1.size) (by omega) (by omega) hcc);rw[hl1]at K2;have HP:=hid (And.intro hm (And.intro hl1 (And.intro ho hk1)));clear hm hl1 ho hr1 hk1 K;go_wp2_with fail;refine K2.o.mono ?_;rintro e w2 ⟨rfl,hr2,hk2⟩;have HK:=hid hk2;have HR:=hid hr2;clear hr2 hk2 K2;go_wp2_with fail;go_ret;refine⟨dF l1,aO.sZ HP.o.2.2.1,fun x=>(aO.rF l1 x).trans (HP.o.1 x),?_,rfl,HR.o,?_⟩
 ·rw[<-HP.o.2.1];exact aO.Aa l1
 ·have h1:=HP.o.2.2.2;have h2:=HK.o;exact h1.trans ⟨h2.os,h2.tape,h2.output,h2.size,fun q hq hne=>h2.block q (Nat.lt_of_lt_of_le hq h1.size) hne⟩
open aO (It ax bu aY)
def fZ (w:World)(gv:Value)(G:GD):Prop:=∃ tv ov sv pv tf rv,nJ w gv G tv ov sv pv tf rv
theorem fZ.below {w w':World}{gv:Value}{G:GD}(h:fZ w gv G)(hb:aj w w'):fZ w' gv G:=by
 obtain⟨tv,ov,sv,pv,tf,rv,h⟩:=h;exact⟨tv,ov,sv,pv,tf,rv,h.mono hb⟩
theorem dR {G:GD}(h:aB G=true):0<=G.start/\G.start<60/\G.sorts.length<=60/\G.prods.length<=120/\G.terms.length<=60/\G.start<(G.sorts.length:Int):=by
 unfold aB at h;simp only[Bool.and_eq_true,decide_eq_true_eq]at h;obtain⟨⟨⟨⟨⟨h1,h2⟩,h3⟩,h4⟩,h5⟩,⟨⟨h6,h7⟩,h8⟩,h9⟩:=h;exact⟨h6.1,by omega,h2,h3,h1,h6.2⟩
def mg (x:It):Value:=.agg #[.int .i64 x.1,.int .i64 x.2]
def ML (l:List Int)(w:World)(e:Ending)(w':World):Prop:=∃ rv,e=.returned rv/\dw w' rv l/\aj w w'
theorem zu {G:GD}{gv:Value}{w:World}(h:fZ w gv G)(hv:aB G=true)(x:It)(h1:-1<=x.1)(h2:x.1<(G.prods.length:Int)) :
  Calls Tryz.prog 111 #[gv,mg x] w (ML (ax G x.1) w):=by
 obtain⟨tv,ov,sv,pv,tf,rv,h⟩:=h;obtain⟨W1,B,hW1,hB,c0,c1,c2,c3,c4,hG,hb,hsz⟩:=gU h;obtain⟨s0,s1,_⟩:=dR hv;have hgv:=h.eq;subst hgv hB;have e1:=hW1.symm;obtain⟨W2,e2⟩:=ai (W1.alloc (.cells #[.int .i64 x.1,.int .i64 x.2] 60));have hb2:aj W1 W2:=dM e2;have n2:W2.heap[W1.heap.size]?=some (.cells #[.int .i64 x.1,.int .i64 x.2] 60 (0,0)):=by rw[<-e2];exact heap_alloc_new _ _
 have d0:ay W2 W1.heap.size 0 (.int .i64 x.1):=ak n2 0;have d1:ay W2 W1.heap.size 1 (.int .i64 x.2):=ak n2 1;have c3':=cell_below hb2 c3;have c4':=cell_below hb2 c4;have HB2:=hid (hb.trans (hb2.mono hsz));have HG2:=hid (hG.mono hb2);unfold mg;obtain⟨a,b⟩:=x;dsimp only at *;by_cases hx:a=-1
 ·subst hx;obtain⟨W3,e3⟩:=ai (W2.alloc (.cells #[.int .i64 (-1-G.start)] 61));have hb3:aj W2 W3:=dM e3;have HN3:=hid (show W3.heap[W2.heap.size]?=some (.cells #[.int .i64 (-1-G.start)] 61 (0,0))from by rw[<-e3];exact heap_alloc_new _ _);have HB3:=fJ HB2 hb3;have HS:=hid (And.intro s0 s1);clear hW1 hb hb2 hb3 hG h n2;go_enter Tryz.func111,Tryz.ntmps111;go_wp2_with fail;go_ret;refine⟨_,rfl,⟨⟨_,_,rfl,by show(1:Nat)<=9223372036854775807;decide,fun _=>⟨_,0,rfl,fun i hi=>?_⟩⟩,fun y hy=>?_⟩,HB3.o⟩
  ·obtain rfl:i=0:=by have:i<1:=hi;omega
   exact ak HN3.o 0
  ·obtain rfl:y=-1-G.start:=by simpa[ax] using hy
   have:=HS.o;omega
 ·obtain⟨p,rfl⟩:∃ p:Nat,a=(p:Int):=⟨a.toNat,by omega⟩;have hp:p<G.prods.length:=by omega
  have HR:=hid (show ax G (p:Int)=(G.prods.getD p default).rs from by unfold ax;rw[if_neg hx,Int.toNat_natCast]);have HI:=hid (HG2.o.rights p hp);obtain⟨pa,pc,rfl,hpn,hpc⟩:=HG2.o.prods;obtain⟨pb,po,rfl,hpq⟩:=hpc (by omega);obtain⟨_,_,q2,_⟩:=hpq p hp;obtain⟨ra,rc,hrv,_⟩:=(HG2.o.rights p hp).1;obtain⟨rn,hrn⟩:=ai ((G.prods.getD p default).rs.length);rw[hrn]at hrv;have HRV:=hid hrv;rw[hrv]at q2;have p0:(0:Int)<=(p:Int):=by omega
  clear hW1 hb hb2 hG h n2 hpq hrv hrn;go_enter Tryz.func111,Tryz.ntmps111;go_wp2_with fail;go_ret;refine⟨_,rfl,?_,HB2.o⟩;rw[HR.o];have:=HI.o;rw[HRV.o]at this;exact this
end Go.Proofs.YticmnfmijdgmbaaGreatDoor
