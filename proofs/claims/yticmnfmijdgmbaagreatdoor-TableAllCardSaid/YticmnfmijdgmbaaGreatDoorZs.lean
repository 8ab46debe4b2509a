import Derived.Test.YticmnfmijdgmbaaGreatDoorZq
import Derived.Test.YticmnfmijdgmbaaGreatDoorZr
set_option linter.all false
set_option maxRecDepth 100000
set_option maxHeartbeats 16000000
namespace Go.Proofs.YticmnfmijdgmbaaGreatDoor
open Go Go.RowKit Go.Lib
open aO (It ag aN dn iE mD)
open aJ (aZ top E0 F0 fM)
open aJ.cZ (Pl dm dJ places bi)
open wQ
theorem uK {P:Program}{ops:Array Oper}{rest:List Oper}{o:Oper}{a:Act}{w:World}{Q:Exit->Act->World->Prop}(hgd:o.guard=none)(s x:Operand)(t e:TypeId)(ho:o.op=.call {callee:=.builtin .append,args:=#[s,x],argTypes:=#[t,t]})
  (z:Value) (sz bytes:Nat) (ht:P.underlying t=some (.slice e)) (hinfo:(P.info? e).map (fun i=>(i.zero,i.size,i.bytes))=some (some z,sz,bytes)) (hz1:z.cells.size=sz) (hby:bytes<=64)
  (gg off n:Nat) (xs:List Value) (hs:a.eval s=.slice (some ⟨gg,off,none⟩) n n) (hxl:xs.length=n*sz) (hxc:∀ j u,xs[j]?=some u->w.cell? ⟨gg,off+j,none⟩=some u) (g:Nat) (hx:a.eval x=.slice (some ⟨g,0,none⟩) 1 1) (qs:List Value) (hql:qs.length=sz) (hb:∀ j u,qs[j]?=some u->w.cell? ⟨g,j,none⟩=some u) (hq:∀ q∈qs,q.oneCell'=true) (hn:n<=1000000000)
  (h:∀ c w',aj w w'->(∀ j u,(xs++qs)[j]?=some u->w'.cell? ⟨w.heap.size,j,none⟩=some u)->wpList P ops Q rest (a.put o.dst (.slice (some ⟨w.heap.size,0,none⟩) (n+1) c)) w'):wpList P ops Q (o::rest) a w:=by
 refine wpList_plain hgd fun K' hK'=>?_;obtain⟨i,hi,hz,hsz,hbi⟩:=info_parts hinfo;have hsrc:Src P i.size t (.slice (some ⟨g,0,none⟩) 1 1) 1 qs w:=Src.ofSlice w ht ⟨g,0,none⟩ 1 1 qs (by rw[hsz,hql,Nat.one_mul]) (fun j u hj=>by
  have:(⟨g,0,none⟩:Addr).add j=⟨g,j,none⟩:=by rw[Go.WideShapes.add_plain,Nat.zero_add]
  rw[this];exact hb j u hj) hq
 have hold:(Builtin.firstCells i.size n (.slice (some ⟨gg,off,none⟩) n n)).run P w.drew=.ok xs.toArray w.drew:=run_firstCells_some w.drew i.size n ⟨gg,off,none⟩ n n xs (by rw[hsz];exact hxl) fun j u hu=>by
  rw[show(⟨gg,off,none⟩:Addr).add j=⟨gg,off+j,none⟩by unfold Addr.add;split<;>simp_all];exact hxc j u hu
 have hr:=run_append_grow_src (P:=P) w t t o.type e i z ht hi hz (some ⟨gg,off,none⟩) n n xs hold (.slice (some ⟨g,0,none⟩) 1 1) 1 qs hsrc (by omega) (by omega) (growslice_fits (by omega) (by
  have:(n+1)*i.bytes<=(n+1)*64:=Nat.mul_le_mul_left _ (by omega);omega))
 generalize hK:grownCap w (n+1) n e=K at hr;have hblk:=heap_alloc_new w.drew (.cells ((xs++qs).toArray++Builtin.zeroCells z.cells (K-(n+1))) e);unfold Oper.wp execOp;simp only[ho,resolve,invoke,builtin,Sem.run_bind,Sem.run_pure,Result.andThen_ok,List.map_toArray,List.map_cons,List.map_nil,hs,hx,hr];refine hK' _ _ (h _ _ ⟨rfl,rfl,rfl,by simp,fun k hk=>Below.heap_alloc w.drew _ k hk⟩ fun j u hj=>?_);have hjl:=(List.getElem?_eq_some_iff.1 hj).1;refine(ak hblk j).trans ?_;rw[Array.getElem?_append_left (by simpa using hjl)];simpa using hj
theorem info71:(Tryz.prog.info? 71).map (fun i=>(i.zero,i.size,i.bytes))=some (some (.agg #[.string ⟨#[]⟩,.int .i64 0,.slice none 0 0,.int .i64 0]),4,56):=by kernel_rfl
def wT (w:World):World:=((((w.alloc (.cells #[.string ⟨#[97]⟩,.string ⟨#[]⟩,.bool false,.int .i64 0] 105)).alloc (.cells #[.string ⟨#[83]⟩] 9)).alloc (.cells #[.int .i64 0,.int .i64 (-1)] 61)).alloc (.cells #[.string ⟨#[112]⟩,.int .i64 0,.slice (some ⟨w.heap.size+1+1,0,none⟩) 2 2,.int .i64 0,.string ⟨#[113]⟩,.int .i64 0,.slice none 0 0,.int .i64 0] 71)).alloc (.cells #[.slice (some ⟨w.heap.size,0,none⟩) 1 1,.slice none 0 0,.slice (some ⟨w.heap.size+1,0,none⟩) 1 1,.slice (some ⟨w.heap.size+1+1+1,0,none⟩) 2 2,.int .i64 0] 27)
abbrev gT (w:World):Value:=.agg #[.slice (some ⟨w.heap.size,0,none⟩) 1 1,.slice none 0 0,.slice (some ⟨w.heap.size+1,0,none⟩) 1 1,.slice (some ⟨w.heap.size+1+1+1,0,none⟩) 2 2,.int .i64 0]
theorem alT {B:Nat}{a w:World}(h:Below B a w)(hB:B<=w.heap.size)(o:Obj):Below B a (w.alloc o)/\B<=(w.alloc o).heap.size:=⟨h.alloc hB o,by simp;omega⟩
theorem Jn (w:World):Below w.heap.size w (wT w):=by
 have h1:=alT (eH w.heap.size w) (bJ _) (.cells #[.string ⟨#[97]⟩,.string ⟨#[]⟩,.bool false,.int .i64 0] 105);have h2:=alT h1.1 h1.2 (.cells #[.string ⟨#[83]⟩] 9);have h3:=alT h2.1 h2.2 (.cells #[.int .i64 0,.int .i64 (-1)] 61);have h4:=alT h3.1 h3.2 (.cells #[.string ⟨#[112]⟩,.int .i64 0,.slice (some ⟨w.heap.size+1+1,0,none⟩) 2 2,.int .i64 0,.string ⟨#[113]⟩,.int .i64 0,.slice none 0 0,.int .i64 0] 71);exact(alT h4.1 h4.2 _).1
theorem heapT {w:World}{o o':Obj}{g:Nat}(h:w.heap[g]?=some o):(w.alloc o').heap[g]?=some o:=(Below.heap_alloc w o' g (dZ h)).trans h
theorem newT (w:World)(o:Obj){g:Nat}(h:w.heap.size=g):(w.alloc o).heap[g]?=some o:=by rw[<-h];exact aK w o
theorem wT_0 (w:World):(wT w).heap[w.heap.size]?=some (.cells #[.string ⟨#[97]⟩,.string ⟨#[]⟩,.bool false,.int .i64 0] 105):=heapT (heapT (heapT (heapT (aK w _))))
theorem wT_1 (w:World):(wT w).heap[w.heap.size+1]?=some (.cells #[.string ⟨#[83]⟩] 9):=heapT (heapT (heapT (newT _ _ (by simp))))
theorem wT_2 (w:World):(wT w).heap[w.heap.size+1+1]?=some (.cells #[.int .i64 0,.int .i64 (-1)] 61):=heapT (heapT (newT _ _ (by simp)))
theorem Aw (w:World):(wT w).heap[w.heap.size+1+1+1]?=some (.cells #[.string ⟨#[112]⟩,.int .i64 0,.slice (some ⟨w.heap.size+1+1,0,none⟩) 2 2,.int .i64 0,.string ⟨#[113]⟩,.int .i64 0,.slice none 0 0,.int .i64 0] 71):=heapT (newT _ _ (by simp))
theorem wT_4 (w:World):(wT w).heap[w.heap.size+1+1+1+1]?=some (.cells #[.slice (some ⟨w.heap.size,0,none⟩) 1 1,.slice none 0 0,.slice (some ⟨w.heap.size+1,0,none⟩) 1 1,.slice (some ⟨w.heap.size+1+1+1,0,none⟩) 2 2,.int .i64 0] 27):=newT _ _ (by simp)
theorem wT_size (w:World):(wT w).heap.size=w.heap.size+1+1+1+1+1:=by unfold wT;simp
def rvT (w:World)(y:Nat):Nat->Value
 | 0=>.slice (some ⟨w.heap.size+1+1,0,none⟩) 2 2
 | 1=>.slice none 0 0
 | _=>.slice (some ⟨y,0,none⟩) 1 1
theorem Gm {w W:World}(h:W.heap[w.heap.size+1+1]?=some (.cells #[.int .i64 0,.int .i64 (-1)] 61)):dw W (.slice (some ⟨w.heap.size+1+1,0,none⟩) 2 2) [0,-1]:=by
 refine⟨⟨_,_,rfl,by decide,fun _=>⟨_,0,rfl,fun i hi=>?_⟩⟩,by decide⟩;have:i=0\/i=1:=by have:i<2:=hi;omega
 rcases this with rfl | rfl
 ·exact ak h 0
 ·exact ak h 1
theorem Gn (W:World):dw W (.slice none 0 0) []:=⟨⟨_,_,rfl,by decide,fun h=>absurd h (by decide)⟩,by decide⟩
theorem GR {w W:World}{G:GD}{pv:Value}{rv:Nat->Value}(hG:G.terms=[⟨#[97]⟩]/\G.over=[]/\G.sorts=[⟨#[83]⟩]/\G.start=0)(h0:W.heap[w.heap.size]?=some (.cells #[.string ⟨#[97]⟩,.string ⟨#[]⟩,.bool false,.int .i64 0] 105))(h1:W.heap[w.heap.size+1]?=some (.cells #[.string ⟨#[83]⟩] 9))(hp:rJ W pv G.prods rv)(hr:∀ i,i<G.prods.length->dw W (rv i) (G.prods.getD i default).rs)(hc:∀ i a n c,rv i=.slice a n c->n<=c) :
  fZ W (.agg #[.slice (some ⟨w.heap.size,0,none⟩) 1 1,.slice none 0 0,.slice (some ⟨w.heap.size+1,0,none⟩) 1 1,pv,.int .i64 0]) G:=by
 obtain⟨e1,e2,e3,e4⟩:=hG;refine⟨.slice (some ⟨w.heap.size,0,none⟩) 1 1,.slice none 0 0,.slice (some ⟨w.heap.size+1,0,none⟩) 1 1,pv,fun _ j=>if j=1 then .string ⟨#[]⟩else if j=2 then .bool false else .int .i64 0,rv,by rw[e4],?_,?_,?_,hp,hr,fun i _ a n c=>hc i a n c⟩
 ·rw[e1];refine⟨_,_,rfl,by decide,fun _=>⟨_,0,rfl,fun i hi=>?_⟩⟩;obtain rfl:i=0:=by have:i<1:=hi;omega
  exact⟨ak h0 0,ak h0 1,ak h0 2,ak h0 3⟩
 ·rw[e2];exact⟨_,_,rfl,by decide,fun h=>absurd h (by decide)⟩
 ·rw[e3];refine⟨_,_,rfl,by decide,fun _=>⟨_,0,rfl,fun i hi=>?_⟩⟩;obtain rfl:i=0:=by have:i<1:=hi;omega
  exact ak h1 0
theorem Gf (w:World)(y:Nat):∀ i a n c,rvT w y i=.slice a n c->n<=c:=fun i a n c h=>by
 match i,h with
 | 0,h=>cases h;exact bJ _
 | 1,h=>cases h;exact bJ _
 | _+2,h=>cases h;exact bJ _
theorem gT_at (w:World):fZ (wT w) (gT w) iE:=by
 refine GR (rv:=rvT w 0) ⟨rfl,rfl,rfl,rfl⟩ (wT_0 w) (wT_1 w) ⟨_,_,rfl,by decide,fun _=>⟨_,0,rfl,fun i hi=>?_⟩⟩ (fun i hi=>?_) (Gf w 0)
 ·have:i=0\/i=1:=by have:i<2:=hi;omega
  rcases this with rfl | rfl
  ·exact⟨ak (Aw w) 0,ak (Aw w) 1,ak (Aw w) 2,ak (Aw w) 3⟩
  ·exact⟨ak (Aw w) 4,ak (Aw w) 5,ak (Aw w) 6,ak (Aw w) 7⟩
 ·have:i=0\/i=1:=by have:i<2:=hi;omega
  rcases this with rfl | rfl
  ·exact Gm (wT_2 w)
  ·exact Gn _
def prU (w:World)(y:Nat):List Value:=[.string ⟨#[112]⟩,.int .i64 0,.slice (some ⟨w.heap.size+1+1,0,none⟩) 2 2,.int .i64 0,.string ⟨#[113]⟩,.int .i64 0,.slice none 0 0,.int .i64 0]++[.string ⟨#[114]⟩,.int .i64 0,.slice (some ⟨y,0,none⟩) 1 1,.int .i64 0]
theorem gU_at {w W:World}{gX y KX:Nat}(h0:W.heap[w.heap.size]?=some (.cells #[.string ⟨#[97]⟩,.string ⟨#[]⟩,.bool false,.int .i64 0] 105))(h1:W.heap[w.heap.size+1]?=some (.cells #[.string ⟨#[83]⟩] 9))(h2:W.heap[w.heap.size+1+1]?=some (.cells #[.int .i64 0,.int .i64 (-1)] 61))(hy:W.heap[y]?=some (.cells #[.int .i64 0] 61))(hp:∀ j u,(prU w y)[j]?=some u->W.cell? ⟨gX,j,none⟩=some u) :
  fZ W (.agg #[.slice (some ⟨w.heap.size,0,none⟩) 1 1,.slice none 0 0,.slice (some ⟨w.heap.size+1,0,none⟩) 1 1,.slice (some ⟨gX,0,none⟩) 3 KX,.int .i64 0]) mD:=by
 refine GR (rv:=rvT w y) ⟨rfl,rfl,rfl,rfl⟩ h0 h1 ⟨_,_,rfl,by decide,fun _=>⟨_,0,rfl,fun i hi=>?_⟩⟩ (fun i hi=>?_) (Gf w y)
 ·have:i=0\/i=1\/i=2:=by have:i<3:=hi;omega
  rcases this with rfl | rfl | rfl
  ·exact⟨hp 0 _ rfl,hp 1 _ rfl,hp 2 _ rfl,hp 3 _ rfl⟩
  ·exact⟨hp 4 _ rfl,hp 5 _ rfl,hp 6 _ rfl,hp 7 _ rfl⟩
  ·exact⟨hp 8 _ rfl,hp 9 _ rfl,hp 10 _ rfl,hp 11 _ rfl⟩
 ·have:i=0\/i=1\/i=2:=by have:i<3:=hi;omega
  rcases this with rfl | rfl | rfl
  ·exact Gm h2
  ·exact Gn _
  ·refine⟨⟨_,_,rfl,by decide,fun _=>⟨_,0,rfl,fun i hi=>?_⟩⟩,by decide⟩;obtain rfl:i=0:=by have:i<1:=hi;omega
   exact ak hy 0
theorem IQ {w w':World}{e:Ending}(h:BP iE w e w'):aj w w'/\∃ A tv,e=.returned (.tuple #[tv,.int .i64 0])/\LA iE 4 A/\TabAt w' tv 4 2 (dS iE 4 A) (fun i=>fH iE (ag iE 4).nx i 1):=by
 obtain⟨hb,h | ⟨_,n,h | ⟨h,A,hL,hc⟩⟩⟩:=h
 ·rw[aO.xm]at h;cases h.1
 ·exact(aO.fB.not aO.MG h.1).elim
 ·obtain rfl:=aO.fB.one h aO.MG;rcases hc with⟨h1,_⟩ | ⟨_,tv,rfl,h2⟩
  ·exact absurd (T_cl hL) h1
  ·exact⟨hb,A,tv,rfl,hL,h2⟩
theorem IM {w w':World}{e:Ending}(h:BP mD w e w'):aj w w'/\e=.returned (.tuple #[nM,.int .i64 16]):=by
 obtain⟨hb,h | ⟨_,n,h | ⟨h,A,hL,hc⟩⟩⟩:=h
 ·rw[aO.BO]at h;cases h.1
 ·exact(aO.fB.not aO.Md h.1).elim
 ·obtain rfl:=aO.fB.one h aO.Md;rcases hc with⟨_,h1⟩ | ⟨h1,_⟩
  ·exact⟨hb,h1⟩
  ·have:=(U_cl hL).symm.trans h1;cases this
theorem IL {w w':World}{e:Ending}(h:qP mD w e w'):aj w w'/\∃ o c,e=.returned (.slice o 1 c):=by
 obtain⟨hb,h | ⟨_,n,h | ⟨h,v,A,rfl,hL,ho⟩⟩⟩:=h
 ·rw[aO.BO]at h;cases h.1
 ·exact(aO.fB.not aO.Md h.1).elim
 ·obtain rfl:=aO.fB.one h aO.Md;have e:jG (iW (dE mD (ag mD 4).nx (bi mD 4 (E0 mD) (F0 mD)).C A)) (mD.terms.length+1) 4=[(1,1)]:=U_cl hL;rw[e]at ho;obtain⟨o,c,rfl⟩:=ho.shape;exact⟨hb,o,c,rfl⟩
theorem IP {w:World}{A:Pl->Nat}{tv:Value}(hL:LA iE 4 A)(h:TabAt w tv 4 2 (dS iE 4 A) (fun i=>fH iE (ag iE 4).nx i 1)):∃ d1 d2 dc no nc m1 m2 mc r1 r2 rc,tv=.agg #[.slice (some ⟨d1,d2,none⟩) 4 dc,.slice no 4 nc,.slice (some ⟨m1,m2,none⟩) 4 mc] /\
  w.cell? ⟨d1,d2,none⟩=some (.slice (some ⟨r1,r2,none⟩) 2 rc)/\w.cell? ⟨r1,r2,none⟩=some (.int .i64 1)/\w.cell? ⟨r1,r2+1,none⟩=some (.int .i64 1)/\w.cell? ⟨r1,r2+2,none⟩=some (.int .i64 2)/\w.cell? ⟨r1,r2+2+1,none⟩=some (.int .i64 1)/\w.cell? ⟨m1,m2,none⟩=some (.int .u64 9223372036854775809):=by
 obtain⟨dv,nv,mv,rfl,h1,h2,h3⟩:=h;obtain⟨hone,hmay⟩:=T_one hL;obtain⟨no,nc,rfl,_⟩:=h2.len;obtain⟨o1,dc,rfl,_⟩:=id h1.len;obtain⟨d1,d2,u,rfl,a1,a2⟩:=h1.at_ (k:=0) (by omega);rw[hone]at a2;obtain⟨o2,rc,rfl,_⟩:=id a2.len;obtain⟨r1,r2,rfl,b1,b2⟩:=a2.at_ (k:=0) (x:=(1,1)) rfl;obtain⟨r1',r2',e,b3,b4⟩:=a2.at_ (k:=1) (x:=(2,1)) rfl;cases e;obtain⟨o3,mc,rfl,_,hm⟩:=h3;obtain⟨m1,m2,rfl,hm2⟩:=hm (by simp);have hm3:ay w m1 (m2+0) (aJ.u64 (((List.range 4).map fun i=>jA (dS iE 4 A i) 2 2).getD 0 0)):=hm2 0 (by simp);have hg:((List.range 4).map fun i=>jA (dS iE 4 A i) 2 2).getD 0 0=9223372036854775809:=hmay;rw[hg]at hm3;have hl:((List.range 4).map fun i=>jA (dS iE 4 A i) 2 2).length=4:=by simp
 refine⟨d1,d2,dc,no,nc,m1,m2,mc,r1,r2,rc,by rw[hl],by simpa using a1,by simpa using b1,by simpa using b2,by simpa using b3,by simpa using b4,by rw[Nat.add_zero]at hm3;exact hm3⟩
theorem Ce {W:World}{b:Nat}{x y:Int}(h:W.heap[b]?=some (.cells #[.int .i64 x,.int .i64 y] 3 (0,0)))(hx:-9223372036854775808<=x/\x<=9223372036854775807:=by decide)(hy:-9223372036854775808<=y/\y<=9223372036854775807:=by decide):dw W (.slice (some ⟨b,0,none⟩) 2 2) [x,y]:=by
 refine⟨⟨_,_,rfl,by simp,fun _=>⟨_,0,rfl,fun i hi=>?_⟩⟩,fun z hz=>?_⟩
 ·have:i=0\/i=1:=by have:i<2:=hi;omega
  rcases this with rfl | rfl
  ·exact ak h 0
  ·exact ak h 1
 ·rcases List.mem_cons.1 hz with rfl | hz
  ·exact hx
  ·rw[List.mem_singleton.1 hz];exact hy
theorem BR {Bt:Nat}(w:World)(ht:Tab Bt w)(hBt:Bt<=w.heap.size):Calls Tryz.prog 34 #[] w fun e w'=>e=.returned (.bool true)/\aj w w':=by
 have hB:=Jn w;have HG0:=hid (gT_at w);have HT0:=hid (ht.on (hB.mono hBt));unfold gT at HG0;obtain⟨w0,hw0⟩:∃ w0,w0=wT w:=⟨_,rfl⟩;have HBK:=hid (And.intro (wT_0 w) (And.intro (wT_1 w) (And.intro (wT_2 w) (And.intro (Aw w) (wT_4 w)))));have HSZ:=hid (wT_size w);rw[<-hw0]at hB HG0 HT0 HBK HSZ;have HB0:=hid hB;have hsz:=hB.size;have HS:=hid (show ∀ w',aj w0 w'->ay w' (w.heap.size+1+1+1+1) 0 (.slice (some ⟨w.heap.size,0,none⟩) 1 1)/\ay w' (w.heap.size+1+1+1+1) 1 (.slice none 0 0)/\ay w' (w.heap.size+1+1+1+1) 2 (.slice (some ⟨w.heap.size+1,0,none⟩) 1 1)/\ay w' (w.heap.size+1+1+1+1) 3 (.slice (some ⟨w.heap.size+1+1+1,0,none⟩) 2 2)/\ay w' (w.heap.size+1+1+1+1) 4 (.int .i64 0)from fun w' hC=>⟨cell_below hC (ak HBK.o.2.2.2.2 0),cell_below hC (ak HBK.o.2.2.2.2 1),cell_below hC (ak HBK.o.2.2.2.2 2),cell_below hC (ak HBK.o.2.2.2.2 3),cell_below hC (ak HBK.o.2.2.2.2 4)⟩);obtain⟨c0,c1,c2,c3,c4⟩:=HS.o w0 (eH _ _);have KB:=hid (tK HG0.o HT0.o (eX hBt hsz));clear hB;go_enter Tryz.func34,Tryz.ntmps34
 go_upto_region 2 with fail
 unfold wT at hw0;rw[<-hw0];clear hw0;go_wp2_with fail;refine KB.o.mono ?_;rintro e w1 hbp;obtain⟨hb1,A,tv,rfl,hL,htab⟩:=IQ hbp;have HTAB:=hid htab;obtain⟨d1,d2,dc,no,nc,m1,m2,mc,r1,r2,rc,rfl,y0,y1,y2,y3,y4,y5⟩:=IP hL htab;have HL:=hid hL;have HY:=hid (show ∀ w',aj w1 w'->ay w' d1 d2 (.slice (some ⟨r1,r2,none⟩) 2 rc)/\ay w' r1 r2 (.int .i64 1)/\ay w' r1 (r2+1) (.int .i64 1)/\ay w' r1 (r2+2) (.int .i64 2)/\ay w' r1 (r2+2+1) (.int .i64 1)/\ay w' m1 m2 (.int .u64 9223372036854775809)from fun w' hC =>
  ⟨cell_below hC y0,cell_below hC y1,cell_below hC y2,cell_below hC y3,cell_below hC y4,cell_below hC y5⟩)
 have HC1:=hid hb1;clear y0 y1 y2 y3 y4 y5 hL htab hbp c0 c1 c2 c3 c4 KB;obtain⟨W2,e2⟩:=ai (w1.alloc (.cells #[.slice none 0 0,.slice none 0 0,.slice none 0 0] 96));have n2:W2.heap[w1.heap.size]?=some (.cells #[.slice none 0 0,.slice none 0 0,.slice none 0 0] 96 (0,0)):=dO e2;have vn0:W2.heap[w1.heap.size]?=some (.cells #[.slice none 0 0,.slice none 0 0,.slice none 0 0] 96 (0,0)):=n2;have vc0:ay W2 w1.heap.size 0 (.slice none 0 0):=ak vn0 0;have vf0:=bY vn0 0;obtain⟨u1,ve0⟩:=ai (W2.setCell ⟨w1.heap.size,0,none⟩ (.slice (some ⟨d1,d2,none⟩) 4 dc));have vn1:u1.heap[w1.heap.size]?=some (.cells #[.slice (some ⟨d1,d2,none⟩) 4 dc,.slice none 0 0,.slice none 0 0] 96 (0,0)):=dK ve0 vn0;have vc1:ay u1 w1.heap.size 1 (.slice none 0 0):=ak vn1 1;have vf1:=bY vn1 1;obtain⟨u2,ve1⟩:=ai (u1.setCell ⟨w1.heap.size,1,none⟩ (.slice no 4 nc));have vn2:u2.heap[w1.heap.size]?=some (.cells #[.slice (some ⟨d1,d2,none⟩) 4 dc,.slice no 4 nc,.slice none 0 0] 96 (0,0)):=dK ve1 vn1;have vc2:ay u2 w1.heap.size 2 (.slice none 0 0):=ak vn2 2;have vf2:=bY vn2 2;obtain⟨u3,ve2⟩:=ai (u2.setCell ⟨w1.heap.size,2,none⟩ (.slice (some ⟨m1,m2,none⟩) 4 mc));have vn3:u3.heap[w1.heap.size]?=some (.cells #[.slice (some ⟨d1,d2,none⟩) 4 dc,.slice no 4 nc,.slice (some ⟨m1,m2,none⟩) 4 mc] 96 (0,0)):=dK ve2 vn2;have hb2:aj w1 u3:=by
  rw[<-ve2,<-ve1,<-ve0,<-e2];exact((((eH _ _).alloc (bJ _) _).setCell (bJ _) _).setCell (bJ _) _).setCell (bJ _) _
 have HB2:=hid hb2;have HNT:=hid vn3;have HC2:=hid (hb1.trans (hb2.mono hb1.size));have HE:=hid (show ∀ w',aj u3 w'->ay w' w1.heap.size 0 (.slice (some ⟨d1,d2,none⟩) 4 dc)/\ay w' w1.heap.size 1 (.slice no 4 nc)/\ay w' w1.heap.size 2 (.slice (some ⟨m1,m2,none⟩) 4 mc)from fun w' hC=>⟨cell_below hC (ak HNT.o 0),cell_below hC (ak HNT.o 1),cell_below hC (ak HNT.o 2)⟩);obtain⟨b0,b1,b2⟩:=HE.o u3 (eH _ _);obtain⟨c0,c1,c2,c3,c4⟩:=HS.o u3 HC2.o;obtain⟨W3,e3⟩:=ai (u3.alloc (.cells #[.int .i64 0,.int .i64 0] 3));have n3:W3.heap[u3.heap.size]?=some (.cells #[.int .i64 0,.int .i64 0] 3 (0,0)):=dO e3;have hb3:aj u3 W3:=dM e3;have HC3:=fJ HC2 hb3;have HX3:=hid hb3;have HD3:=fJ HB2 hb3;have K1:=hid (Ha (l:=[0,0]) (HG0.o.below HC3.o) (HT0.o.on (HC3.o.mono (eX hBt hsz))) (eX hBt (eX hsz HC3.o.size)) aO.xm aO.MG HL.o (T_cl HL.o) (HTAB.o.below HD3.o) (Ce n3) (by decide) (T_run1 HL.o));clear hb1 hb2 hb3 n2 vn0 vn1 vn2 vn3 n3;go_wp2_with fail;refine K1.o.mono ?_;rintro e w4 ⟨rfl,hb4⟩;have HC4:=fJ HC3 hb4;have HX4:=fJ HX3 hb4;have HD4:=fJ HD3 hb4;clear b0 b1 b2 c0 c1 c2 c3 c4 K1 hb4 e3 e2 vc0 vf0 vc1 vf1 vc2 vf2 ve0 ve1 ve2;obtain⟨b0,b1,b2⟩:=HE.o w4 HX4.o;obtain⟨c0,c1,c2,c3,c4⟩:=HS.o w4 HC4.o;obtain⟨W5,e5⟩:=ai (w4.alloc (.cells #[.int .i64 0,.int .i64 1] 3));have n5:W5.heap[w4.heap.size]?=some (.cells #[.int .i64 0,.int .i64 1] 3 (0,0)):=dO e5;have hb5:aj w4 W5:=dM e5;have HC5:=fJ HC4 hb5;have HX5:=fJ HX4 hb5;have HD5:=fJ HD4 hb5;have K2:=hid (Ha (l:=[0,1]) (HG0.o.below HC5.o) (HT0.o.on (HC5.o.mono (eX hBt hsz))) (eX hBt (eX hsz HC5.o.size)) aO.xm aO.MG HL.o (T_cl HL.o) (HTAB.o.below HD5.o) (Ce n5) (by decide) (T_run2 HL.o));clear hb5 n5;go_wp2_with fail;refine K2.o.mono ?_;rintro e w6 ⟨rfl,hb6⟩;have HC6:=fJ HC5 hb6;have HX6:=fJ HX5 hb6;have HD6:=fJ HD5 hb6;clear b0 b1 b2 c0 c1 c2 c3 c4 K2 hb6 e5;obtain⟨c0,c1,c2,c3,c4⟩:=HS.o w6 HC6.o;obtain⟨W7,e7⟩:=ai (w6.alloc (.cells #[.int .i64 0] 61));have n7:W7.heap[w6.heap.size]?=some (.cells #[.int .i64 0] 61 (0,0)):=dO e7;have hb7:aj w6 W7:=dM e7;obtain⟨W8,e8⟩:=ai (W7.alloc (.cells #[.string ⟨#[114]⟩,.int .i64 0,.slice (some ⟨w6.heap.size,0,none⟩) 1 1,.int .i64 0] 71));have n8:W8.heap[W7.heap.size]?=some (.cells #[.string ⟨#[114]⟩,.int .i64 0,.slice (some ⟨w6.heap.size,0,none⟩) 1 1,.int .i64 0] 71 (0,0)):=dO e8;have hb8:aj W7 W8:=dM e8
 have hb68:=hb7.trans (hb8.mono hb7.size);have HC8:=fJ HC6 hb68;have HX8:=fJ HX6 hb68;have HD8:=fJ HD6 hb68;have HY8:=hid ((hb8.block _ (dZ n7)).trans n7);have HXC:=hid (show ∀ j u,([.string ⟨#[112]⟩,.int .i64 0,.slice (some ⟨w.heap.size+1+1,0,none⟩) 2 2,.int .i64 0,.string ⟨#[113]⟩,.int .i64 0,.slice none 0 0,.int .i64 0]:List Value)[j]?=some u->W8.cell? ⟨w.heap.size+1+1+1,0+j,none⟩=some u from fun j u hj=>by
  rw[Nat.zero_add];refine cell_below HC8.o ?_;rw[ak HBK.o.2.2.2.1 j,<-hj,<-List.getElem?_toArray])
 have HQC:=hid (show ∀ j u,([.string ⟨#[114]⟩,.int .i64 0,.slice (some ⟨w6.heap.size,0,none⟩) 1 1,.int .i64 0]:List Value)[j]?=some u->W8.cell? ⟨W7.heap.size,j,none⟩=some u from fun j u hj=>by
  rw[ak n8 j,<-hj,<-List.getElem?_toArray])
 have HQ1:=hid (show ∀ q∈([.string ⟨#[114]⟩,.int .i64 0,.slice (some ⟨w6.heap.size,0,none⟩) 1 1,.int .i64 0]:List Value),q.oneCell'=true from fun q hq=>by
  simp only[List.mem_cons,List.not_mem_nil,or_false]at hq;rcases hq with rfl | rfl | rfl | rfl<;>rfl)
 clear n7 n8 hb7 hb8 hb68;go_wp2_with (refine uK rfl (.tmp 59) (.tmp 62) 25 71 rfl (.agg #[.string ⟨#[]⟩,.int .i64 0,.slice none 0 0,.int .i64 0]) 4 56 Tryz.underlying25 info71 rfl (by decide) (w.heap.size+1+1+1) 0 2 [.string ⟨#[112]⟩,.int .i64 0,.slice (some ⟨w.heap.size+1+1,0,none⟩) 2 2,.int .i64 0,.string ⟨#[113]⟩,.int .i64 0,.slice none 0 0,.int .i64 0] rfl rfl HXC.o W7.heap.size rfl [.string ⟨#[114]⟩,.int .i64 0,.slice (some ⟨w6.heap.size,0,none⟩) 1 1,.int .i64 0] rfl HQC.o HQ1.o (by decide) ?_);intro KX w9 hb9 hp9;have HP9:=hid hp9;have HC9:=fJ HC8 hb9;have HX9:=fJ HX8 hb9;have HD9:=fJ HD8 hb9;obtain⟨gX,hgX⟩:=ai (W8.heap.size);rw[hgX]at HP9 ⊢;have HGX:=hid hgX;have n9:w9.heap[w.heap.size+1+1+1+1]?=some (.cells #[.slice (some ⟨w.heap.size,0,none⟩) 1 1,.slice none 0 0,.slice (some ⟨w.heap.size+1,0,none⟩) 1 1,.slice (some ⟨w.heap.size+1+1+1,0,none⟩) 2 2,.int .i64 0] 27):=(HC9.o.block _ (by rw[HSZ.o];omega)).trans HBK.o.2.2.2.2;have f3:=bY n9 3;have k3:ay w9 (w.heap.size+1+1+1+1) 3 (.slice (some ⟨w.heap.size+1+1+1,0,none⟩) 2 2):=ak n9 3;obtain⟨w10,e10⟩:=ai (w9.setCell ⟨w.heap.size+1+1+1+1,3,none⟩ (.slice (some ⟨gX,0,none⟩) 3 KX));have n10:w10.heap[w.heap.size+1+1+1+1]?=some (.cells #[.slice (some ⟨w.heap.size,0,none⟩) 1 1,.slice none 0 0,.slice (some ⟨w.heap.size+1,0,none⟩) 1 1,.slice (some ⟨gX,0,none⟩) 3 KX,.int .i64 0] 27 (0,0)):=dK e10 n9;have hk10:∀ b,b≠w.heap.size+1+1+1+1->w10.heap[b]?=w9.heap[b]?:=fun b hb=>by rw[<-e10];exact Below.heap_setCell _ ⟨_,3,none⟩ _ b hb
 have HB10:=hid (show aj w w10 from by
  rw[<-e10];exact((HB0.o.trans (HC9.o.mono HB0.o.size)).setCell (show w.heap.size<=w.heap.size+1+1+1+1 by omega) _))
 have hold:∀ (b:Nat) (o:Obj),b≠w.heap.size+1+1+1+1->w0.heap[b]?=some o->w10.heap[b]?=some o:=fun b o hb ho=>(hk10 b hb).trans ((HC9.o.block _ (dZ ho)).trans ho);have h9s:w9.heap.size=w10.heap.size:=by rw[<-e10];simp
 have hy10:w10.heap[w6.heap.size]?=some (.cells #[.int .i64 0] 61):=(hk10 _ (by have h1:=HC6.o.size;have h2:=HSZ.o;omega)).trans ((hb9.block _ (dZ HY8.o)).trans HY8.o);have hgxne:gX≠w.heap.size+1+1+1+1:=by rw[<-hgX];have h1:=HC8.o.size;have h2:=HSZ.o;omega
 have HGU:=hid (gU_at (w:=w) (W:=w10) (gX:=gX) (y:=w6.heap.size) (KX:=KX) (hold _ _ (by omega) HBK.o.1) (hold _ _ (by omega) HBK.o.2.1) (hold _ _ (by omega) HBK.o.2.2.1) hy10 (fun j u hj=>by
  have h1:=HP9.o j u hj;exact(World.cell?_of_block (a:=⟨gX,j,none⟩) (hk10 gX hgxne)).trans h1))
 have HT10:=hid (ht.on (HB10.o.mono hBt));have HTN:=hid (show ∀ w',aj w10 w'->(ay w' w1.heap.size 0 (.slice (some ⟨d1,d2,none⟩) 4 dc)/\ay w' w1.heap.size 1 (.slice no 4 nc)/\ay w' w1.heap.size 2 (.slice (some ⟨m1,m2,none⟩) 4 mc))from fun w' hC=>by
  have hne:w1.heap.size≠w.heap.size+1+1+1+1:=by have h1:=HC1.o.size;have h2:=HSZ.o;omega
  obtain⟨b0,b1,b2⟩:=HE.o w9 HX9.o;exact⟨cell_below hC ((World.cell?_of_block (a:=⟨w1.heap.size,0,none⟩) (hk10 _ hne)).trans b0),cell_below hC ((World.cell?_of_block (a:=⟨w1.heap.size,1,none⟩) (hk10 _ hne)).trans b1),cell_below hC ((World.cell?_of_block (a:=⟨w1.heap.size,2,none⟩) (hk10 _ hne)).trans b2)⟩)
 have HYN:=hid (show ∀ w',aj w10 w'->ay w' d1 d2 (.slice (some ⟨r1,r2,none⟩) 2 rc)/\ay w' r1 r2 (.int .i64 1)/\ay w' r1 (r2+1) (.int .i64 1)/\ay w' r1 (r2+2) (.int .i64 2)/\ay w' r1 (r2+2+1) (.int .i64 1)/\ay w' m1 m2 (.int .u64 9223372036854775809)from fun w' hC=>by
  obtain⟨y0,y1,y2,y3,y4,y5⟩:=HY.o w9 HD9.o;have hp0:ay w9 (w.heap.size+1+1+1) 0 (.string ⟨#[112]⟩):=cell_below HC9.o (ak HBK.o.2.2.2.1 0);have far:∀ (b o:Nat) (u:Value),w9.cell? ⟨b,o,none⟩=some u->u≠(.slice (some ⟨w.heap.size+1+1+1,0,none⟩) 2 2:Value)->w'.cell? ⟨b,o,none⟩=some u:=fun b o u hu hne=>by
   refine cell_below hC ?_;rw[<-e10,World.cell?_setCell_other]
   ·exact hu
   ·intro he;rw[<-he,k3]at hu;exact hne (Option.some.inj hu).symm
  refine⟨far _ _ _ y0 (fun he=>?_),far _ _ _ y1 (by simp),far _ _ _ y2 (by simp),far _ _ _ y3 (by simp),far _ _ _ y4 (by simp),far _ _ _ y5 (by simp)⟩;injection he with he1 _ _;injection he1 with he1;injection he1 with he1 he2 _;rw[he1,he2]at y1;cases hp0.symm.trans y1)
 obtain⟨q0,q1,q2,q3,q4⟩:=(show ∀ w',aj w10 w'->w'.cell? ⟨w.heap.size+1+1+1+1,0,none⟩=some (.slice (some ⟨w.heap.size,0,none⟩) 1 1)/\w'.cell? ⟨w.heap.size+1+1+1+1,1,none⟩=some (.slice none 0 0)/\w'.cell? ⟨w.heap.size+1+1+1+1,2,none⟩=some (.slice (some ⟨w.heap.size+1,0,none⟩) 1 1)/\w'.cell? ⟨w.heap.size+1+1+1+1,3,none⟩=some (.slice (some ⟨gX,0,none⟩) 3 KX)/\w'.cell? ⟨w.heap.size+1+1+1+1,4,none⟩=some (.int .i64 0)from fun w' hC=>⟨cell_below hC (ak n10 0),cell_below hC (ak n10 1),cell_below hC (ak n10 2),cell_below hC (ak n10 3),cell_below hC (ak n10 4)⟩) w10 (eH _ _);have HN10:=hid n10;have KC:=hid (wJ HGU.o HT10.o (eX hBt HB10.o.size));clear hb9 hp9 n9 n10 hk10 hold h9s hy10 hgxne;go_wp2_with fail;refine KC.o.mono ?_;rintro e w11 hcp;obtain⟨hb11,clo,clc,rfl⟩:=IL hcp;have HC11:=hid hb11;have HQ:=hid (show ∀ w',aj w10 w'->ay w' (w.heap.size+1+1+1+1) 0 (.slice (some ⟨w.heap.size,0,none⟩) 1 1)/\ay w' (w.heap.size+1+1+1+1) 1 (.slice none 0 0)/\ay w' (w.heap.size+1+1+1+1) 2 (.slice (some ⟨w.heap.size+1,0,none⟩) 1 1)/\ay w' (w.heap.size+1+1+1+1) 3 (.slice (some ⟨gX,0,none⟩) 3 KX)/\ay w' (w.heap.size+1+1+1+1) 4 (.int .i64 0)from fun w' hC=>⟨cell_below hC (ak HN10.o 0),cell_below hC (ak HN10.o 1),cell_below hC (ak HN10.o 2),cell_below hC (ak HN10.o 3),cell_below hC (ak HN10.o 4)⟩);clear q0 q1 q2 q3 q4 KC hcp hb11 e7 e8 e10 k3 f3;obtain⟨q0,q1,q2,q3,q4⟩:=HQ.o w11 HC11.o;have KB2:=hid (tK (HGU.o.below HC11.o) (HT10.o.on (HC11.o.mono (eX hBt HB10.o.size))) (eX hBt (eX HB10.o.size HC11.o.size)));go_wp2_with fail;refine KB2.o.mono ?_;rintro e w12 hbp;obtain⟨hb12,rfl⟩:=IM hbp;have HC12:=fJ HC11 hb12;clear q0 q1 q2 q3 q4 KB2 hbp hb12;obtain⟨W13,e13⟩:=ai (w12.alloc (.cells #[.slice none 0 0,.slice none 0 0,.slice none 0 0] 96));have n13:W13.heap[w12.heap.size]?=some (.cells #[.slice none 0 0,.slice none 0 0,.slice none 0 0] 96 (0,0)):=dO e13;have xn0:W13.heap[w12.heap.size]?=some (.cells #[.slice none 0 0,.slice none 0 0,.slice none 0 0] 96 (0,0)):=n13;have xc0:ay W13 w12.heap.size 0 (.slice none 0 0):=ak xn0 0;have xf0:=bY xn0 0;obtain⟨z1,xe0⟩:=ai (W13.setCell ⟨w12.heap.size,0,none⟩ (.slice none 0 0));have xn1:z1.heap[w12.heap.size]?=some (.cells #[.slice none 0 0,.slice none 0 0,.slice none 0 0] 96 (0,0)):=dK xe0 xn0;have xc1:ay z1 w12.heap.size 1 (.slice none 0 0):=ak xn1 1;have xf1:=bY xn1 1;obtain⟨z2,xe1⟩:=ai (z1.setCell ⟨w12.heap.size,1,none⟩ (.slice none 0 0));have xn2:z2.heap[w12.heap.size]?=some (.cells #[.slice none 0 0,.slice none 0 0,.slice none 0 0] 96 (0,0)):=dK xe1 xn1;have xc2:ay z2 w12.heap.size 2 (.slice none 0 0):=ak xn2 2;have xf2:=bY xn2 2
 obtain⟨z3,xe2⟩:=ai (z2.setCell ⟨w12.heap.size,2,none⟩ (.slice none 0 0));have xn3:z3.heap[w12.heap.size]?=some (.cells #[.slice none 0 0,.slice none 0 0,.slice none 0 0] 96 (0,0)):=dK xe2 xn2;have hb13:aj w12 z3:=by
  rw[<-xe2,<-xe1,<-xe0,<-e13];exact((((eH _ _).alloc (bJ _) _).setCell (bJ _) _).setCell (bJ _) _).setCell (bJ _) _
 have HC13:=fJ HC12 hb13;obtain⟨b0,b1,b2⟩:=HTN.o z3 HC13.o;obtain⟨y0,y1,y2,y3,y4,y5⟩:=HYN.o z3 HC13.o;clear hb13 n13 xn0 xn1 xn2 xn3;unfold nM;go_wp2_with fail;go_ret;exact⟨rfl,HB10.o.trans (HC13.o.mono HB10.o.size)⟩
end Go.Proofs.YticmnfmijdgmbaaGreatDoor
