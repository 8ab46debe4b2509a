import Derived.Test.YticmnfmijdgmbaaGreatDoorZc
set_option linter.all false
namespace Go.Proofs.YticmnfmijdgmbaaGreatDoor
open Go Go.RowKit Go.Lib
section
variable {w:World}
theorem Ez {P:Program}(t ty e:TypeId)(z:Value)(sz bytes:Nat)(ht:P.underlying t=some (.slice e))(hinfo:(P.info? e).map (fun i=>(i.zero,i.size,i.bytes))=some (some z,sz,bytes))(hz1:z.cells.size=sz)(hby:bytes<=48)
  (B:Nat) (v:Value) (n:Nat) (xs:List Value) (hown:aI w B sz v n xs) (g:Nat) (qs:List Value) (hql:qs.length=sz) (hb:∀ j u,qs[j]?=some u->w.cell? ⟨g,j,none⟩=some u) (hq:∀ q∈qs,q.oneCell'=true) (hn:n<=1000000000) (hB:B<=w.heap.size) :
  ∃ v' w',(Builtin.append_ #[t,t] ty #[v,.slice (some ⟨g,0,none⟩) 1 1]).run P w=.ok v' w'/\aI w' B sz v' (n+1) (xs++qs)/\w.grownBy w' v.ownBlock/\(v'.ownBlock=v.ownBlock\/v'.ownBlock=some w.heap.size)/\(∃ ao c,v'=.slice ao (n+1) c):=by
 obtain⟨i,hi,hz,hs,hbi⟩:=info_parts hinfo;have hsrc:Src P i.size t (.slice (some ⟨g,0,none⟩) 1 1) 1 qs w:=Src.ofSlice w ht ⟨g,0,none⟩ 1 1 qs (by rw[hs,hql,Nat.one_mul]) (fun j u hj=>by
  have:(⟨g,0,none⟩:Addr).add j=⟨g,j,none⟩:=by rw[Go.WideShapes.add_plain,Nat.zero_add]
  rw[this];exact hb j u hj) hq
 have hxl:=hown.1;have grown:∀ (base:Option Addr) (cap:Nat),cap<n+1->(Builtin.firstCells i.size n (.slice base n cap)).run P w.drew=.ok xs.toArray w.drew->v=.slice base n cap ->
   ∃ v' w',(Builtin.append_ #[t,t] ty #[v,.slice (some ⟨g,0,none⟩) 1 1]).run P w=.ok v' w'/\aI w' B sz v' (n+1) (xs++qs)/\w.grownBy w' v.ownBlock/\(v'.ownBlock=v.ownBlock\/v'.ownBlock=some w.heap.size)/\(∃ ao c,v'=.slice ao (n+1) c):=by
  intro base cap hc hold hv;have hr:=run_append_grow_src (P:=P) w t t ty e i z ht hi hz base n cap xs hold (.slice (some ⟨g,0,none⟩) 1 1) 1 qs hsrc hc (by omega) (growslice_fits (by omega) (by
   have:(n+1)*i.bytes<=(n+1)*48:=Nat.mul_le_mul_left _ (by omega);omega))
  have hge:=grownCap_ge w (n+1) cap e;have hcm:grownCap w (n+1) cap e<=maxLen:=grownCap_le_maxLen w (n+1) cap e (by unfold maxLen;omega);generalize hK:grownCap w (n+1) cap e=K at hr hge hcm;subst hv;have hblk:=heap_alloc_new w.drew (.cells ((xs++qs).toArray++Builtin.zeroCells z.cells (K-(n+1))) e);have hsize:((xs++qs).toArray++Builtin.zeroCells z.cells (K-(n+1))).size=K*sz:=by
   simp[size_zeroCells,hz1,hxl,hql];rw[<-Nat.succ_mul,<-Nat.add_mul];congr 1;omega
  refine⟨_,_,hr,⟨by rw[List.length_append,hxl,hql,Nat.succ_mul],.inr ⟨w.heap.size,0,K,rfl,hB,by simp,hge,hcm,fun j u hj=>?_,fun j hj=>?_⟩⟩,⟨rfl,rfl,rfl,by simp,fun k hk _=>Below.heap_alloc w.drew _ k hk⟩,.inr rfl,_,_,rfl⟩
  ·have hjl:=(List.getElem?_eq_some_iff.1 hj).1;rw[Nat.zero_add];refine(ak hblk j).trans ?_;rw[Array.getElem?_append_left (by simpa using hjl)];simpa using hj
  ·rw[Nat.zero_add];refine⟨?_,bY hblk j⟩;have e1:(w.drew.alloc (.cells ((xs++qs).toArray++Builtin.zeroCells z.cells (K-(n+1))) e)).cell? ⟨w.heap.size,j,none⟩=_:=ak hblk j;rw[e1,Array.getElem?_eq_getElem (by rw[hsize];exact hj)];rfl
 obtain⟨_,⟨rfl,rfl⟩ | ⟨gg,off,cap,rfl,hBg,hg,h1,h2,h3,h4⟩⟩:=hown
 ·have hx0:xs=[]:=List.eq_nil_of_length_eq_zero (by omega);subst hx0;exact grown none 0 (by simp) (run_firstCells_none w.drew i.size 0 0 0) rfl
 ·by_cases hroom:n+1<=cap
  ·have hcs:(n+1)*sz<=cap*sz:=Nat.mul_le_mul_right _ hroom;rw[Nat.succ_mul]at hcs;have hin:∀ j,j<qs.length->(w.cell? ⟨gg,off+n*i.size+j,none⟩).isSome=true:=fun j hj=>by
    rw[hs,Nat.add_assoc];exact(h4 (n*sz+j) (by omega)).1
   have hfr:∀ j,j<qs.length->w.frozen? ⟨gg,off+n*i.size+j,none⟩=false:=fun j hj=>by
    rw[hs,Nat.add_assoc];exact(h4 (n*sz+j) (by omega)).2
   have hr:=run_append_room_src (P:=P) w t t ty e i ht hi gg off n cap (.slice (some ⟨g,0,none⟩) 1 1) 1 qs hsrc hroom hin hfr;have hsz:(w.setCells gg (off+n*i.size) qs).heap.size=w.heap.size:=by
    have:∀ (vs:List Value) (o:Nat) (w:World),(w.setCells gg o vs).heap.size=w.heap.size:=fun vs=>by
     induction vs with
     | nil=>intro o w;rfl
     | cons a l ih=>intro o w;show((w.setCell ⟨gg,o,none⟩ a).setCells gg (o+1) l).heap.size=_;rw[ih];simp
    exact this _ _ _
   refine⟨_,_,hr,⟨by rw[List.length_append,hxl,hql,Nat.succ_mul],.inr ⟨gg,off,cap,rfl,hBg,by rw[hsz];exact hg,hroom,h2,fun j u hj=>?_,fun j hj=>?_⟩⟩,⟨World.os_setCells _ _ _ _,?_,World.output_setCells _ _ _ _,by rw[hsz];exact bJ _,fun k hk hne=>World.heap_setCells_other w gg _ qs hk (fun e=>hne (by rw[e];rfl))⟩,.inl rfl,_,_,rfl⟩
   ·by_cases hjl:j<xs.length
    ·rw[World.cell?_setCells_out gg qs (off+n*i.size) w ⟨gg,off+j,none⟩ (fun _ _=>.inl (by show off+j<_;rw[hs];omega))];rw[List.getElem?_append_left hjl]at hj;exact h3 j u hj
    ·rw[List.getElem?_append_right (by omega)]at hj;have hjq:=(List.getElem?_eq_some_iff.1 hj).1;have:=World.cell?_setCells_in gg qs (off+n*i.size) w hin (j-xs.length) hjq;have e1:off+n*i.size+(j-xs.length)=off+j:=by rw[hs];omega
     rw[e1]at this;rw[this];rw[<-hj,dH hjq]
   ·rw[World.frozen?_setCells];refine⟨?_,(h4 j hj).2⟩;by_cases hin2:n*sz<=j/\j<n*sz+qs.length
    ·have:=World.cell?_setCells_in gg qs (off+n*i.size) w hin (j-n*sz) (by omega);have e1:off+n*i.size+(j-n*sz)=off+j:=by rw[hs];omega
     rw[e1]at this;rw[this];rfl
    ·rw[World.cell?_setCells_out gg qs (off+n*i.size) w ⟨gg,off+j,none⟩ (fun _ _=>by show off+j<_\/_<=off+j;rw[hs];omega)];exact(h4 j hj).1
   ·have:∀ (vs:List Value) (o:Nat) (w:World),(w.setCells gg o vs).tape=w.tape:=fun vs=>by
     induction vs with
     | nil=>intro o w;rfl
     | cons a l ih=>intro o w;show((w.setCell ⟨gg,o,none⟩ a).setCells gg (o+1) l).tape=_;rw[ih];rfl
    exact this _ _ _
  ·refine grown _ cap (by omega) (run_firstCells_some w.drew i.size n ⟨gg,off,none⟩ n cap xs (by rw[hs];exact hxl) fun j u hu=>?_) rfl;rw[show(⟨gg,off,none⟩:Addr).add j=⟨gg,off+j,none⟩by unfold Addr.add;split<;>simp_all];exact h3 j u hu
end
section
variable {w:World}{B:Nat}
theorem Hr {P:Program}{o:Oper}{a:Act}{K:Act->World->Prop}{Qx:Exit->Act->World->Prop}(s x:Operand)(t e:TypeId)(ho:o.op=.call {callee:=.builtin .append,args:=#[s,x],argTypes:=#[t,t]})
  (z:Value) (sz bytes:Nat) (ht:P.underlying t=some (.slice e)) (hinfo:(P.info? e).map (fun i=>(i.zero,i.size,i.bytes))=some (some z,sz,bytes)) (hz1:z.cells.size=sz) (hby:bytes<=48)
  (v:Value) (n:Nat) (xs:List Value) (hs:a.eval s=v) (hown:aI w B sz v n xs) (g:Nat) (hx:a.eval x=.slice (some ⟨g,0,none⟩) 1 1) (qs:List Value) (hql:qs.length=sz) (hb:∀ j u,qs[j]?=some u->w.cell? ⟨g,j,none⟩=some u) (hq:∀ q∈qs,q.oneCell'=true) (hn:n<=1000000000) (hB:B<=w.heap.size)
  (h:∀ ao c w',aI w' B sz (.slice ao (n+1) c) (n+1) (xs++qs)->w.grownBy w' v.ownBlock->((Value.slice ao (n+1) c).ownBlock=v.ownBlock\/(Value.slice ao (n+1) c).ownBlock=some w.heap.size)->K (a.put o.dst (.slice ao (n+1) c)) w'):o.wp P a w K Qx:=by
 obtain⟨v',w',hr,h2,h3,h4,ao,c,rfl⟩:=Ez (w:=w) t o.type e z sz bytes ht hinfo hz1 hby B v n xs hown g qs hql hb hq hn hB;unfold Oper.wp execOp;simp only[ho,resolve,invoke,builtin,Sem.run_bind,Sem.run_pure,Result.andThen_ok,List.map_toArray,List.map_cons,List.map_nil,hs,hx,hr];exact h ao c w' h2 h3 h4
end
theorem yR {P:Program}{ops:Array Oper}{rest:List Oper}{o:Oper}{a:Act}{w:World}{B:Nat}{Q:Exit->Act->World->Prop}(hgd:o.guard=none)(s x:Operand)(t e:TypeId)(ho:o.op=.call {callee:=.builtin .append,args:=#[s,x],argTypes:=#[t,t]})
  (z:Value) (sz bytes:Nat) (ht:P.underlying t=some (.slice e)) (hinfo:(P.info? e).map (fun i=>(i.zero,i.size,i.bytes))=some (some z,sz,bytes)) (hz1:z.cells.size=sz) (hby:bytes<=48)
  (v:Value) (n:Nat) (xs:List Value) (hs:a.eval s=v) (hown:aI w B sz v n xs) (g:Nat) (hx:a.eval x=.slice (some ⟨g,0,none⟩) 1 1) (qs:List Value) (hql:qs.length=sz) (hb:∀ j u,qs[j]?=some u->w.cell? ⟨g,j,none⟩=some u) (hq:∀ q∈qs,q.oneCell'=true) (hn:n<=1000000000) (hB:B<=w.heap.size)
  (h:∀ ao c w',aI w' B sz (.slice ao (n+1) c) (n+1) (xs++qs)->w.grownBy w' v.ownBlock->((Value.slice ao (n+1) c).ownBlock=v.ownBlock\/(Value.slice ao (n+1) c).ownBlock=some w.heap.size)->wpList P ops Q rest (a.put o.dst (.slice ao (n+1) c)) w'):wpList P ops Q (o::rest) a w:=by
 refine wpList_plain hgd fun K' hK'=>?_;exact Hr s x t e ho z sz bytes ht hinfo hz1 hby v n xs hs hown g hx qs hql hb hq hn hB (fun ao c w' h1 h2 h3=>hK' _ _ (h ao c w' h1 h2 h3))
open aO (It fG y9 fF jP)
theorem La:(Tryz.prog.info? 50).map (fun i=>(i.zero,i.size,i.bytes))=some (some (.slice none 0 0),1,24):=by kernel_rfl
theorem Jz:(Tryz.prog.info? 38).map (·.size)=some 2:=by kernel_rfl
theorem uP {fn:Func}(h:fn.results=#[.cell 2 38,.tmp 3])(tmps:Array Value)(w:World)(g:Nat)(a b:Value)(n:Int)
  (hp:tmps.getD 2 undef=.pointer (some ⟨g,0,none⟩)) (hn:tmps.getD 3 undef=.int .i64 n) (hg:w.heap[g]?=some (.cells #[a,b] 38 (0,0))) :
  (results fn tmps).run Tryz.prog w=.ok (.tuple #[.agg #[a,b],.int .i64 n]) w:=by
 rw[results_cell_tmp h,hp,hn];simp[asAddr,Result.andThen,run_loadVar_row w g 38 38 #[a,b] (0,0) _ hg Tryz.underlying38 rfl (by rw[Jz];rfl)]
theorem num_nil (ker:List (List It)):fG [] ker=(-1,ker):=by unfold aO.fG;rw[if_pos rfl]
theorem IG {S:List It}{ker:List (List It)}{i:Nat}(h:∀ j,j<i->ker[j]?≠some S)(hi:ker[i]?=some S):ker.idxOf? S=some i:=by
 obtain⟨hl,he⟩:=List.getElem?_eq_some_iff.1 hi;unfold List.idxOf?;refine List.findIdx?_eq_some_iff_getElem.2 ⟨hl,by rw[he];exact beq_self_eq_true _,fun j hj=>?_⟩;intro hb;have:=beq_iff_eq.1 hb;exact h j hj (by rw[dH (by omega),this])
theorem zF {S:List It}{ker:List (List It)}{i:Nat}(hk:y9 ker)(h:∀ j,j<i->ker[j]?≠some S)(hi:ker[i]?=some S):fG S ker=((i:Int),ker):=
 (Dk (hk.some_ S (List.mem_of_getElem? hi)) (IG h hi)).2
theorem Gu {S:List It}{ker:List (List It)}(hS:S≠[])(h:∀ j,j<ker.length->ker[j]?≠some S):fG S ker=((ker.length:Int),ker++[S]):=by
 refine(Dl hS ?_).2;unfold List.idxOf?;refine List.findIdx?_eq_none_iff.2 fun x hx=>?_;obtain⟨j,hj⟩:=List.mem_iff_getElem?.1 hx;have:=h j (List.getElem?_eq_some_iff.1 hj).1;rw[Bool.eq_false_iff];intro hb;exact this (by rw[hj,beq_iff_eq.1 hb])
theorem zt {G:GD}{c:List It}{ker:List (List It)}(h:y9 ker)(t:Nat):y9 (fF G c ker t).2:=(aO.EE G c _ [] ker h).1
def EI (B bA bG bR:Nat)(gc:Array Value)(kv nv:Value)(K:List KR)(N:List NR)(F:List (Nat×List It))(rv:Value)(xs:List Value):List Item:=
 [ae bA (.cells #[kv,nv] 38 (0,0)),pU B 50 kv (K.map kval),pU B 43 nv (N.map nval),dY F,nfI N,pU B 3 rv xs,ae bG (.cells gc 27 (0,0)),ae bR (.cells #[.slice none 0 0,.slice none 0 0] 38 (0,0))]
structure RB (B:Nat) (W w:World) (bA bG bR:Nat) (gc:Array Value) (kv nv:Value) (K:List KR) (N:List NR) (F:List (Nat×List It)) (rv:Value) (xs:List Value):Prop where
 foot:az B W w (EI B bA bG bR gc kv nv K N F rv xs)
 inF:∀ q∈K,(q.1,q.2.2)∈F
section
variable {B:Nat}{W w w':World}{bA bG bR:Nat}{gc:Array Value}{kv nv:Value}{K:List KR}{N:List NR}{F:List (Nat×List It)}{rv:Value}{xs:List Value}
theorem RB.below (h:RB B W w bA bG bR gc kv nv K N F rv xs)(hb:aj w w'):RB B W w' bA bG bR gc kv nv K N F rv xs:=⟨h.foot.below hb,h.inF⟩
theorem RB.tq (h:RB B W w bA bG bR gc kv nv K N F rv xs):w.heap[bA]?=some (.cells #[kv,nv] 38 (0,0)):=h.foot.ok 0 _ rfl
theorem RB.rM (h:RB B W w bA bG bR gc kv nv K N F rv xs):w.ownsRow B 50 1 kv (K.map kval).length (K.map kval):=h.foot.ok 1 _ rfl
theorem RB.EF (h:RB B W w bA bG bR gc kv nv K N F rv xs):w.ownsRow B 43 1 nv (N.map nval).length (N.map nval):=h.foot.ok 2 _ rfl
theorem RB.froz (h:RB B W w bA bG bR gc kv nv K N F rv xs):(dY F).ok w:=h.foot.ok 3 _ rfl
theorem RB.nf (h:RB B W w bA bG bR gc kv nv K N F rv xs):(nfI N).ok w:=h.foot.ok 4 _ rfl
theorem RB.row (h:RB B W w bA bG bR gc kv nv K N F rv xs):w.ownsRow B 3 1 rv xs.length xs:=h.foot.ok 5 _ rfl
theorem RB.vP (h:RB B W w bA bG bR gc kv nv K N F rv xs):w.heap[bG]?=some (.cells gc 27 (0,0)):=h.foot.ok 6 _ rfl
theorem RB.LH (h:RB B W w bA bG bR gc kv nv K N F rv xs):w.heap[bR]?=some (.cells #[.slice none 0 0,.slice none 0 0] 38 (0,0)):=h.foot.ok 7 _ rfl
theorem RB.bel (h:RB B W w bA bG bR gc kv nv K N F rv xs):Below B W w:=h.foot.bel
theorem RB.size (h:RB B W w bA bG bR gc kv nv K N F rv xs):B<=w.heap.size:=eX h.foot.le h.foot.bel.size
theorem RB.ker (h:RB B W w bA bG bR gc kv nv K N F rv xs)(hK:K.length<=1000000){i:Nat}{q:KR}(hi:K[i]?=some q):∃ g c,kv=.slice (some ⟨g,0,none⟩) K.length c/\w.cell? ⟨g,i,none⟩=some (kval q):=by
 obtain⟨o,c,e⟩:=bF h.rM;rw[List.length_map]at e;have hr:=oG (p:=fun j u=>(K.map kval)[j]?=some u) h.rM (by rw[List.length_map];omega) (fun j u hu=>hu);rw[e]at hr;obtain⟨b,off,u,e1,e2,e3⟩:=hr.at_ (k:=i) (by rw[List.length_map];exact(List.getElem?_eq_some_iff.1 hi).1);have hu:u=kval q:=by
  have e3':(K.map kval)[i]?=some u:=e3;rw[List.getElem?_map,hi]at e3';exact(Option.some.inj e3').symm
 have hrow:=h.rM;rw[e,List.length_map]at hrow;rcases hrow.2 with⟨h1,h2⟩ | ⟨g,cap,cur,h1,_⟩
 ·injection h1 with h1;rw[h1]at e1;cases e1
 ·injection h1 with h1 _ h2;rw[h1]at e1;injection e1 with e1;injection e1 with e1 e4;subst e1;refine⟨g,c,by rw[e,h1],?_⟩;rw[<-hu,show i=off+i by omega];exact e2
theorem RB.step (h:RB B W w bA bG bR gc kv nv K N F rv xs){g c:Nat}{L:List It}(hown:w'.ownsRow w.heap.size 110 2 (.slice (some ⟨g,0,none⟩) L.length c) L.length (icells L))(hb:aj w w'):RB B W w' bA bG bR gc kv nv K N (F++[(g,L)]) rv xs:=by
 have hg:=iF hown g rfl;refine⟨h.foot.upd 3 rfl (dY (F++[(g,L)])) ((Touch.below hb).mono (by simp)) (fun q hq=>?_) (fun b hbm=>?_),fun q hq=>List.mem_append_left _ (h.inF q hq)⟩
 ·rcases List.mem_append.1 hq with e | e
  ·exact((h.below hb).froz) q e
  ·obtain rfl:q=(g,L):=by simpa using e
   exact je.nZ hown rfl
 ·obtain⟨q,hq,rfl⟩:=List.mem_map.1 hbm;rcases List.mem_append.1 hq with e | e
  ·have hm:q.1∈F.map (·.1):=List.mem_map.2 ⟨q,e,rfl⟩;have h5:=(h.foot.lt 3 _ rfl q.1 hm).2;have h6:=hb.size;exact⟨.inl hm,by omega⟩
  ·obtain rfl:q=(g,L):=by simpa using e
   exact⟨.inr hg.1,hg.2⟩
theorem RB.push {g c:Nat}{L:List It}(h:RB B W w bA bG bR gc kv nv K N F rv xs)(hin:(g,L)∈F){v':Value}(hown:w'.ownsRow B 50 1 v' (K.length+1) (K.map kval++[.slice (some ⟨g,0,none⟩) L.length c]))(hg:w.grownBy w' kv.ownBlock)(hat:v'.ownBlock=kv.ownBlock\/v'.ownBlock=some w.heap.size) :
  w'.heap[bA]?=some (.cells #[kv,nv] 38 (0,0))/\RB B W (w'.setCell ⟨bA,0,none⟩ v') bA bG bR gc v' nv (K++[(g,c,L)]) N F rv xs:=by
 have e2:(K++[(g,c,L)]).map kval=K.map kval++[.slice (some ⟨g,0,none⟩) L.length c]:=by simp[kval]
 have h1:=h.foot.push 1 (ys:=K.map kval++[.slice (some ⟨g,0,none⟩) L.length c]) rfl (by rw[List.length_append,List.length_map];exact hown) hg hat;have h2:=iq (k:=0) (v:=v') h1 0 rfl;refine⟨h1.ok 0 _ rfl,?_,fun q hq=>?_⟩
 ·unfold EI;rw[e2];exact h2
 ·rcases List.mem_append.1 hq with e | e
  ·exact h.inF q e
  ·obtain rfl:q=(g,c,L):=by simpa using e
   exact hin
theorem RB.number (h:RB B W w bA bG bR gc kv nv K N F rv xs){v':Value}{ys:List Value}(hown:w'.ownsRow B 3 1 v' ys.length ys)(hg:w.grownBy w' rv.ownBlock)(hat:v'.ownBlock=rv.ownBlock\/v'.ownBlock=some w.heap.size):RB B W w' bA bG bR gc kv nv K N F v' ys:=
 ⟨h.foot.push 5 rfl hown hg hat,h.inF⟩
theorem RB.JY {R:List Int}{g c:Nat}(h:RB B W w bA bG bR gc kv nv K N F (.slice (some ⟨g,0,none⟩) R.length c) (zints R)){v':Value}(hown:w'.ownsRow B 43 1 v' (N.length+1) (N.map nval++[.slice (some ⟨g,0,none⟩) R.length c]))(hg:w.grownBy w' nv.ownBlock)(hat:v'.ownBlock=nv.ownBlock\/v'.ownBlock=some w.heap.size) :
  w'.heap[bA]?=some (.cells #[kv,nv] 38 (0,0))/\RB B W (w'.setCell ⟨bA,1,none⟩ v') bA bG bR gc kv v' K (N++[(g,c,R)]) F (.slice none 0 0) []:=by
 have e2:(N++[(g,c,R)]).map nval=N.map nval++[.slice (some ⟨g,0,none⟩) R.length c]:=by simp[nval]
 have h1:=h.foot.push 2 (ys:=N.map nval++[.slice (some ⟨g,0,none⟩) R.length c]) rfl (by rw[List.length_append,List.length_map];exact hown) hg hat;have h2:=iq (k:=1) (v:=v') h1 0 rfl;have hrow:=h2.ok 5 _ rfl;have h3:=h2.two 4 5 rfl rfl (by decide) (nfI (N++[(g,c,R)])) (pU B 3 (.slice none 0 0) []) (fun q hq=>by
  rcases List.mem_append.1 hq with e | e
  ·exact(h2.ok 4 _ rfl) q e
  ·obtain rfl:q=(g,c,R):=by simpa using e
   refine Di (n:=R.length) (c:=c) (B:=B) ?_;have hl:(zints R).length=R.length:=by unfold zints;rw[List.length_map]
   have:World.ownsRow _ B 3 1 (.slice (some ⟨g,0,none⟩) R.length c) (zints R).length (zints R):=hrow;rw[hl]at this;exact this) (World.ownsRow_nil _ _ _ _) (fun b hb=>by
  obtain⟨q,hq,rfl⟩:=List.mem_map.1 hb;rcases List.mem_append.1 hq with e | e
  ·exact .inl (List.mem_map.2 ⟨q,e,rfl⟩)
  ·obtain rfl:q=(g,c,R):=by simpa using e
   refine .inr ?_;show g∈(Value.slice (some ⟨g,0,none⟩) R.length c).ownBlock.toList;simp[Value.ownBlock]) (fun b hb=>by
  have:b∈(Value.slice none 0 0).ownBlock.toList:=hb;simp[Value.ownBlock]at this) (fun b _ hb=>by
  have:b∈(Value.slice none 0 0).ownBlock.toList:=hb;simp[Value.ownBlock]at this)
 refine⟨h1.ok 0 _ rfl,?_,h.inF⟩;unfold EI;rw[e2];exact h3
end
theorem JH {w W1 W2 w3 W4 W5 W8:World}{gc:Array Value}{g0 gK bA bR:Nat}
  (n1:W1.heap[w.heap.size]?=some (.cells gc 27 (0,0))) (h1:aj w W1)
  (eR:W1.heap.size=bR) (n2:W2.heap[bR]?=some (.cells #[.slice none 0 0,.slice none 0 0] 38 (0,0))) (h2:aj W1 W2) (h3:aj W2 w3)
  (e0:w3.heap.size=g0) (n4:W4.heap[g0]?=some (.cells #[.int .i64 (-1),.int .i64 0] 110 (0,0))) (h4:aj w3 W4)
  (eK:W4.heap.size=gK) (n5:W5.heap[gK]?=some (.cells #[.slice (some ⟨g0,0,none⟩) 1 1] 50 (0,0))) (h5:aj W4 W5)
  (eA:W5.heap.size=bA) (n8:W8.heap[bA]?=some (.cells #[.slice (some ⟨gK,0,none⟩) 1 1,.slice none 0 0] 38 (0,0))) (h8:aj W5 W8) :
  RB w.heap.size w W8 bA w.heap.size bR gc (.slice (some ⟨gK,0,none⟩) 1 1) (.slice none 0 0) [(g0,1,[((-1:Int),(0:Int))])] [] [(g0,[((-1:Int),(0:Int))])] (.slice none 0 0) []:=by
 have lt:∀ {W:World}{b:Nat}{o:Obj},W.heap[b]?=some o->b<W.heap.size:=fun h=>(dZ h);have one:∀ {b c:Nat},c∈[b]->c=b:=fun h=>by simpa using h
 have f0:=(az.empty w w.heap.size (bJ _)).add (ae w.heap.size (.cells gc 27 (0,0))) h1 n1 (fun c hc=>by rw[one hc];exact⟨bJ _,lt n1⟩);have f1:=f0.add (ae bR (.cells #[.slice none 0 0,.slice none 0 0] 38 (0,0))) h2 n2 (fun c hc=>by rw[one hc];exact⟨by omega,lt n2⟩);have f2:=(f1.below h3).add (dY [(g0,[((-1:Int),(0:Int))])]) h4 (fun q hq=>by
  obtain rfl:q=(g0,[((-1:Int),(0:Int))]):=by simpa using hq
  intro i hi;obtain rfl:i=0:=by have:i<1:=hi;omega
  exact⟨ak n4 0,ak n4 1,bY n4 0,bY n4 1⟩) (fun c hc=>by
  have e:c=g0:=one hc;rw[e];exact⟨by omega,lt n4⟩)
 have hgK:w.heap.size<=gK:=by have:=f2.bel.size;omega
 have f3:=f2.add (pU w.heap.size 50 (.slice (some ⟨gK,0,none⟩) 1 1) [.slice (some ⟨g0,0,none⟩) 1 1]) h5 (show World.ownsRow _ w.heap.size 50 1 (.slice (some ⟨gK,0,none⟩) 1 1) 1 [.slice (some ⟨g0,0,none⟩) 1 1]from⟨rfl,.inr ⟨gK,1,_,rfl,hgK,n5,bJ _,(by unfold maxLen;omega),rfl,rfl⟩⟩) (fun c hc=>by
  have e:c=gK:=by
   have:c∈(Value.slice (some ⟨gK,0,none⟩) 1 1).ownBlock.toList:=hc;simpa[Value.ownBlock] using this
  rw[e];exact⟨by omega,lt n5⟩)
 have f4:=f3.add (ae bA (.cells #[.slice (some ⟨gK,0,none⟩) 1 1,.slice none 0 0] 38 (0,0))) h8 n8 (fun c hc=>by rw[one hc];exact⟨by omega,lt n8⟩);have f5:=f4.add (pU w.heap.size 43 (.slice none 0 0) []) (eH _ _) (World.ownsRow_nil _ _ _ _) (fun c hc=>by
  have:c∈(Value.slice none 0 0).ownBlock.toList:=hc;simp[Value.ownBlock]at this)
 have f6:=f5.add (nfI []) (eH _ _) (fun q hq=>by cases hq) (fun c hc=>by cases hc);have f7:=f6.add (pU w.heap.size 3 (.slice none 0 0) []) (eH _ _) (World.ownsRow_nil _ _ _ _) (fun c hc=>by
  have:c∈(Value.slice none 0 0).ownBlock.toList:=hc;simp[Value.ownBlock]at this)
 refine⟨f7.pick _ (fun i=>[4,3,5,2,6,7,0,1].getD i 0) (fun i x hx=>?_) (fun i j hi hj e=>?_),fun q hq=>?_⟩
 ·have hi:i<8:=(List.getElem?_eq_some_iff.1 hx).1;have hi2:i=0\/i=1\/i=2\/i=3\/i=4\/i=5\/i=6\/i=7:=by omega
  rcases hi2 with rfl | rfl | rfl | rfl | rfl | rfl | rfl | rfl<;>exact hx
 ·have hi:i<8:=hi;have hj:j<8:=hj;have:∀ i,i<8->∀ j,j<8->[4,3,5,2,6,7,0,1].getD i 0=[4,3,5,2,6,7,0,1].getD j 0->i=j:=by decide
  exact this i hi j hj e
 ·obtain rfl:q=(g0,1,[((-1:Int),(0:Int))]):=by simpa using hq
  simp
theorem LM {w:World}{B:Nat}{kv nv:Value}{K:List KR}{N:List NR}{F:List (Nat×List It)}(hrK:w.ownsRow B 50 1 kv (K.map kval).length (K.map kval))(hrN:w.ownsRow B 43 1 nv (N.map nval).length (N.map nval))(hfz:(dY F).ok w)(hnf:(nfI N).ok w)(hin:∀ q∈K,(q.1,q.2.2)∈F)(hK:K.length<=1000000)(hN:N.length<=1000000)(hk:∀ k∈kers K,k.length<=1000000)(hn:∀ R∈nxts N,R.length<=1000000/\∀ v∈R,-9223372036854775808<=v/\v<=9223372036854775807):jY w (.agg #[kv,nv]) (kers K) (nxts N):=by
 refine⟨kv,nv,rfl,?_,?_⟩
 ·have:=oG (p:=fun i u=>aS w u ((kers K).getD i [])) hrK (by rw[List.length_map];omega) fun i u hu=>by
   rw[List.getElem?_map]at hu;cases hq:K[i]? with
   | none=>rw[hq]at hu;cases hu
   | some q =>
    rw[hq]at hu;obtain rfl:kval q=u:=Option.some.inj hu;have hm:=List.mem_of_getElem? hq;have e:(kers K).getD i []=q.2.2:=aO.getD_get (by unfold kers;rw[List.getElem?_map,hq];rfl);rw[e];exact eQ (hfz (q.1,q.2.2) (hin q hm)) (eX (hk q.2.2 (List.mem_map.2 ⟨q,hm,rfl⟩)) (by decide))
  rw[List.length_map]at this;rw[dI];exact this
 ·have:=oG (p:=fun i u=>dw w u ((nxts N).getD i [])) hrN (by rw[List.length_map];omega) fun i u hu=>by
   rw[List.getElem?_map]at hu;cases hq:N[i]? with
   | none=>rw[hq]at hu;cases hu
   | some q =>
    rw[hq]at hu;obtain rfl:nval q=u:=Option.some.inj hu;have hm:=List.mem_of_getElem? hq;have e:(nxts N).getD i []=q.2.2:=aO.getD_get (by unfold nxts;rw[List.getElem?_map,hq];rfl);rw[e];have h2:=hn q.2.2 (List.mem_map.2 ⟨q,hm,rfl⟩);exact GK (hnf q hm) (eX h2.1 (by decide)) h2.2
  rw[List.length_map]at this;unfold nxts;rw[List.length_map];exact this
end Go.Proofs.YticmnfmijdgmbaaGreatDoor
