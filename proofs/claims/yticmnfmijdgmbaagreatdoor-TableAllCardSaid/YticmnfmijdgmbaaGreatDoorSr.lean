import Derived.Test.YticmnfmijdgmbaaGreatDoorSk
import Derived.Test.YticmnfmijdgmbaaGreatDoorRi
set_option linter.all false
set_option maxRecDepth 100000
set_option maxHeartbeats 16000000
namespace Go.Proofs.YticmnfmijdgmbaaGreatDoor
open Go Go.RowKit Go.Lib
open aO (It bu aY ax bg fD aP iR aX)
open Go.Maps (Keyed)
theorem eQ {w:World}{g c:Nat}{l:List It}(h:je w g l)(hl:l.length<=9223372036854775807):aS w (.slice (some ⟨g,0,none⟩) l.length c) l:=by
 refine⟨_,_,rfl,hl,fun _=>⟨g,0,rfl,fun i hi=>?_⟩⟩;dsimp only;rw[show l.getD i (0,0)=l[i]by rw[dL,dH hi];rfl,Nat.zero_add];exact⟨(h i hi).1,(h i hi).2.1⟩
theorem IB (w:World):aS w (.slice none 0 0) []:=⟨none,0,rfl,by simp,fun h=>absurd h (by simp)⟩
theorem mJ {G:GD}{l:List It}(hv:aB G=true):fD G l=aP G l:=by unfold fD;rw[if_pos hv]
theorem FV {G:GD}{gv:Value}{w:World}(h:fZ w gv G)(x:It) :
  Calls Tryz.prog 25 #[gv,mg x] w (Am G x w):=by
 have HGr:=hid h;obtain⟨tv,ov,sv,pv,tf,rv,h⟩:=h;obtain⟨W1,B,hW1,hB,c0,c1,c2,c3,c4,hG,hb,hsz⟩:=gU h;have hgv:=h.eq;subst hgv hB;have e1:=hW1.symm;obtain⟨W2,e2⟩:=ai (W1.alloc (.cells #[.int .i64 x.1,.int .i64 x.2] 60));have hb2:aj W1 W2:=dM e2;have n2:W2.heap[W1.heap.size]?=some (.cells #[.int .i64 x.1,.int .i64 x.2] 60 (0,0)):=by rw[<-e2];exact heap_alloc_new _ _
 have lW:W1.heap.size<W2.heap.size:=(dZ n2);have HB2:=hid (hb.trans (hb2.mono hsz));have c0:=cell_below hb2 c0;have c1:=cell_below hb2 c1;have c2:=cell_below hb2 c2;have c3:=cell_below hb2 c3;have c4:=cell_below hb2 c4;have d0:ay W2 W1.heap.size 0 (.int .i64 x.1):=ak n2 0;have d1:ay W2 W1.heap.size 1 (.int .i64 x.2):=ak n2 1;have HC:=hid (And.intro c0 (And.intro c1 (And.intro c2 (And.intro c3 (And.intro c4 (And.intro d0 d1))))));have KV:=hid (mO (hG.mono hb2));obtain⟨vv,hvv⟩:=ai (aB G);have HVV:=hid hvv;have HIV:=hid (show ww G x=(vv && bu G x)from by unfold ww;rw[hvv]);have HIN:=hid (show ww G x=false->jZ G x=none from G7);have HIY:=hid (show ww G x=true->jZ G x=aY G x from fun _=>by unfold jZ;split<;>rename_i k;rfl;rename_i q;exact absurd (aO.lT.1 q).1 k);rw[hvv]at KV;unfold mg;clear h hG hW1 hb hb2 n2 hvv;go_enter Tryz.func25,Tryz.ntmps25;go_wp2_with fail;refine KV.o.mono ?_;rintro e w3 ⟨rfl,hb3⟩;have c0:=cell_below hb3 HC.o.1;have c1:=cell_below hb3 HC.o.2.1;have c2:=cell_below hb3 HC.o.2.2.1;have c3:=cell_below hb3 HC.o.2.2.2.1;have c4:=cell_below hb3 HC.o.2.2.2.2.1;have d0:=cell_below hb3 HC.o.2.2.2.2.2.1;have d1:=cell_below hb3 HC.o.2.2.2.2.2.2;have HC:=hid (And.intro c0 (And.intro c1 (And.intro c2 (And.intro c3 (And.intro c4 (And.intro d0 d1))))));have HB3:=fJ HB2 hb3;clear hb3 KV e1 e2;cases vv
 ·have HN:=hid (HIN.o HIV.o);go_wp2_with fail;refine bodyPost_ret (results_tmp2 rfl _ _ _) rfl ?_;refine⟨?_,HB3.o⟩;rw[HN.o];rfl
 ·rw[Bool.true_and]at HIV;obtain⟨th,hth⟩:=ai (bu G x);have KT:=zg (HGr.o.below HB3.o) HVV.o x;rw[hth]at KT HIV;have KT:=hid KT;have HTH:=hid hth;unfold mg at KT;clear hth;go_wp2_with fail;refine KT.o.mono ?_;rintro e w4 ⟨rfl,hb4⟩;have c0:=cell_below hb4 HC.o.1;have c1:=cell_below hb4 HC.o.2.1;have c2:=cell_below hb4 HC.o.2.2.1;have c3:=cell_below hb4 HC.o.2.2.2.1;have c4:=cell_below hb4 HC.o.2.2.2.2.1;have d0:=cell_below hb4 HC.o.2.2.2.2.2.1;have d1:=cell_below hb4 HC.o.2.2.2.2.2.2;have HB4:=fJ HB3 hb4;clear hb4 KT;cases th
  ·have HN:=hid (HIN.o HIV.o);go_wp2_with fail;refine bodyPost_ret (results_tmp2 rfl _ _ _) rfl ?_;refine⟨?_,HB4.o⟩;rw[HN.o];rfl
  ·have KB:=tu (HGr.o.below HB4.o) HVV.o x HTH.o;unfold BehP at KB;rw[<-HIY.o HIV.o]at KB;obtain⟨sy,hsy⟩:=ai ((jZ G x).getD 0);obtain⟨ok,hok⟩:=ai ((jZ G x).isSome);rw[hsy,hok]at KB;have KB:=hid KB;unfold mg at *;have HSY:=hid hsy;have HOK:=hid hok;clear hsy hok;go_wp2_with fail;refine KB.o.mono ?_;rintro e w5 ⟨rfl,hb5⟩;have HB5:=fJ HB4 hb5;clear hb5 KB;go_wp2_with fail;refine bodyPost_ret (results_tmp2 rfl _ _ _) rfl ?_;refine⟨?_,HB5.o⟩;rw[HSY.o,HOK.o];rfl
open aO (It bu aY ax bg aX)
theorem ru:Keyed Tryz.prog 61:=Maps.int_keyed Tryz.underlying61
theorem Kt {s:Int}(h0:-9223372036854775808<=s)(h1:s<=9223372036854775807):keyOf Tryz.prog 61 (.int .i64 s)=some (.int .i64 s):=Maps.keyOf_int_mk Tryz.underlying61 (wf_i64 h0 h1)
theorem Ji (w:World):(zeroValue 45).run Tryz.prog w=.ok (.slice none 0 0) w:=by kernel_rfl
theorem Ae {G:GD}{x:It}{s:Int}(hv:aB G=true)(hb:aY G x=some s):-61<=s/\s<=60:=by
 by_cases hs:s<0
 ·have:=yG hv hb hs;have:=(bn hv).2.1;omega
 ·have ht:=aO.bW.1 (aO.fA hb);unfold aO.aY at hb;rw[if_pos (aO.fA (by unfold aO.aY;exact hb))]at hb;obtain⟨hlt,he⟩:=List.getElem?_eq_some_iff.1 hb;obtain⟨hnt,_,_,hp,_,hst,_⟩:=bn hv;have hmem:s∈ax G x.1:=by rw[<-he];exact List.getElem_mem hlt
  by_cases h1:x.1=-1
  ·have e:ax G x.1=[-1-G.start]:=by unfold aO.ax;rw[if_pos h1]
   rw[e]at hmem;have:s=-1-G.start:=by simpa using hmem
   omega
  ·have e:ax G x.1=(G.prods.getD x.1.toNat default).rs:=by unfold aO.ax;rw[if_neg h1]
   rw[e]at hmem;have hlp:x.1.toNat<G.prods.length:=by omega
   have hpm:G.prods.getD x.1.toNat default∈G.prods:=by
    rw[dL,dH hlp];exact List.getElem_mem hlp
   have hq:=List.all_eq_true.1 hp _ hpm;unfold fP at hq;simp only[Bool.and_eq_true,decide_eq_true_eq]at hq;have hsy:=List.all_eq_true.1 hq.2 s hmem;unfold mQ at hsy;have:=of_decide_eq_true hsy;omega
abbrev FU:=Int×Nat×Nat
def wL (p:FU)(l:List It):Value:=.slice (some ⟨p.2.1,0,none⟩) l.length p.2.2
def lV (f:Int->List It)(p:FU):Value×Value:=(.int .i64 p.1,wL p (f p.1))
structure wP (w0 w:World) (f:Int->List It) (b:Nat) (M:List FU):Prop where
 bel:aj w0 w
 map:bH Tryz.prog 61 w b (M.map (lV f))
 own:∀ p∈M,w.ownsRow w0.heap.size 60 2 (wL p (f p.1)) (f p.1).length (icells (f p.1))
 ne:∀ p∈M,f p.1≠[]
 keys:(M.map (·.1)).Nodup
 gs:(M.map (·.2.1)).Nodup
 all:∀ s,s∉M.map (·.1)->f s=[]
 ge:w0.heap.size<=b
theorem wP.below {w0 w w':World}{f:Int->List It}{b:Nat}{M:List FU}(h:wP w0 w f b M)(hb:aj w w'):wP w0 w' f b M:=
 ⟨h.bel.trans (hb.mono h.bel.size),h.map.below hb,fun p hp=>own_below (h.own p hp) hb,h.ne,h.keys,h.gs,h.all,h.ge⟩
theorem wP.same {w0 w:World}{f f':Int->List It}{b:Nat}{M:List FU}(h:wP w0 w f b M)(he:∀ s,f' s=f s):wP w0 w f' b M:=by
 have:f'=f:=funext he;rw[this];exact h
theorem wP.start (w0 w:World)(hb:aj w0 w):wP w0 (w.alloc (.map #[] 0)) (fun _=>[]) w.heap.size []:=
 ⟨hb.trans (((eH _ _).alloc (bJ _) _).mono hb.size),bH.made w,by simp,by simp,List.nodup_nil,List.nodup_nil,fun _ _=>rfl,hb.size⟩
theorem ik {w:World}{B n g c sz:Nat}{e:TypeId}{xs:List Value}(h:w.ownsRow B e sz (.slice (some ⟨g,0,none⟩) n c) n xs):∃ cur,w.heap[g]?=some (.cells cur e (0,0)):=by
 rcases h.2 with⟨h1,_⟩ | ⟨g',cap,cur,h1,hB,hg,_⟩
 ·cases h1
 ·injection h1 with h1;injection h1 with h1;injection h1 with h1;subst h1;exact⟨cur,hg⟩
theorem ja {w:World}{k:TypeId}{b g:Nat}{L:List (Value×Value)}{cur:Array Value}{e:TypeId}(h:bH Tryz.prog k w b L)(hg:w.heap[g]?=some (.cells cur e (0,0))):b≠g:=by
 intro e1;subst e1;obtain⟨es,clock,hb,_⟩:=h.ex;rw[hb]at hg;cases hg
theorem kF {w:World}{B n sz:Nat}{e:TypeId}{v:Value}{xs:List Value}(h:w.ownsRow B e sz v (n+1) xs):∃ g c,v=.slice (some ⟨g,0,none⟩) (n+1) c/\B<=g/\g<w.heap.size:=by
 rcases h.2 with⟨h1,h0⟩ | ⟨g',cap,cur,h1,hB,hg,_⟩
 ·omega
 ·exact⟨g',cap,h1,hB,(dZ hg)⟩
theorem wP.more {w0 w w2 w3:World}{f f':Int->List It}{b:Nat}{M:List FU}(h:wP w0 w f b M){j:Nat}{p:FU}{y:It}{v':Value}(hj:M[j]?=some p)(hf:∀ s,f' s=if s=p.1 then f p.1++[y]else f s)
  (hown:w2.ownsRow w0.heap.size 60 2 v' ((f p.1).length+1) (icells (f p.1)++[.int .i64 y.1,.int .i64 y.2])) (hg:w.grownBy w2 (some p.2.1)) (hat:v'.ownBlock=some p.2.1\/v'.ownBlock=some w.heap.size)
  (hm:bH Tryz.prog 61 w3 b ((M.map (lV f)).set j (.int .i64 p.1,v'))) (hg3:w2.grownBy w3 (some b)):∃ M',wP w0 w3 f' b M':=by
 obtain⟨g',c',rfl,hB',hlt'⟩:=kF hown;have hpM:=List.mem_of_getElem? hj;have hjl:=(List.getElem?_eq_some_iff.1 hj).1;have hgg:g'=p.2.1\/g'=w.heap.size:=hat.imp (fun e=>Option.some.inj e) (fun e=>Option.some.inj e);have hfp:f' p.1=f p.1++[y]:=by rw[hf,if_pos rfl]
 have hfo:∀ s,s≠p.1->f' s=f s:=fun s hs=>by rw[hf,if_neg hs]
 have hkey:∀ i q,M[i]?=some q->i≠j->q.1≠p.1:=fun i q hi hij e=>by
  refine hij ((List.getElem?_inj (by rw[List.length_map];exact(List.getElem?_eq_some_iff.1 hi).1) h.keys).1 ?_);rw[List.getElem?_map,List.getElem?_map,hi,hj];simp[e]
 have hgne:∀ i q,M[i]?=some q->i≠j->q.2.1≠p.2.1:=fun i q hi hij e=>by
  refine hij ((List.getElem?_inj (by rw[List.length_map];exact(List.getElem?_eq_some_iff.1 hi).1) h.gs).1 ?_);rw[List.getElem?_map,List.getElem?_map,hi,hj];simp[e]
 have hlt:∀ q∈M,w0.heap.size<=q.2.1/\q.2.1<w.heap.size:=fun q hq=>iF (h.own q hq) q.2.1 rfl;have hbel2:aj w0 w2:=h.bel.grown hg h.bel.size (fun k e=>by injection e with e;subst e;exact(hlt p hpM).1);have hbel3:aj w0 w3:=hbel2.grown hg3 hbel2.size (fun k e=>by injection e with e;subst e;exact h.ge);have hget:∀ i q,(M.set j (p.1,g',c'))[i]?=some q->(i=j/\q=(p.1,g',c'))\/(i≠j/\M[i]?=some q):=fun i q hi=>by
  rw[List.getElem?_set]at hi;split at hi
  ·rename_i e;try rw[if_pos hjl]at hi
   injection hi with hi;exact .inl ⟨e.symm,hi.symm⟩
  ·rename_i e;exact .inr ⟨fun e'=>e e'.symm,hi⟩
 have hownb:∀ q∈M,q.2.1≠p.2.1->w3.heap[q.2.1]?=w.heap[q.2.1]?:=fun q hq hne=>by
  have h1:=(hlt q hq).2;obtain⟨cur,hc⟩:=ik (h.own q hq);have h2:b≠q.2.1:=ja h.map hc;exact(hg3.block _ (Nat.lt_of_lt_of_le h1 hg.size) (fun e=>h2 (Option.some.inj e).symm)).trans (hg.block _ h1 (fun e=>hne (Option.some.inj e)))
 refine⟨M.set j (p.1,g',c'),hbel3,?_,fun q hq=>?_,fun q hq=>?_,?_,?_,fun s hs=>?_,h.ge⟩
 ·have e:(M.set j (p.1,g',c')).map (lV f')=(M.map (lV f)).set j (.int .i64 p.1,.slice (some ⟨g',0,none⟩) ((f p.1).length+1) c'):=by
   refine List.ext_getElem? fun i=>?_;rw[List.getElem?_map,List.getElem?_set,List.getElem?_set,List.length_map];split
   ·try rw[if_pos hjl]
    simp only[Option.map_some,lV,wL,hfp,List.length_append,List.length_cons,List.length_nil]
   ·rename_i hij;rw[List.getElem?_map];cases hi:M[i]? with
    | none=>rfl
    | some q =>
     have:=hkey i q hi (fun e=>hij e.symm);simp only[Option.map_some,lV,wL,hfo q.1 this]
  rw[e];exact hm
 ·obtain⟨i,hi⟩:=List.mem_iff_getElem?.1 hq;rcases hget i q hi with⟨rfl,rfl⟩ | ⟨hij,hq2⟩
  ·show w3.ownsRow _ 60 2 (.slice (some ⟨g',0,none⟩) (f' p.1).length c') (f' p.1).length (icells (f' p.1));rw[hfp,List.length_append,qE];refine jJ hown fun q hq=>?_;injection hq with hq;subst hq;obtain⟨cur,hc⟩:=ik hown;refine hg3.block _ hlt' fun e=>?_;have e':g'=b:=Option.some.inj e;obtain⟨es,clock,hbm,_⟩:=h.map.ex;have hbl:=h.map.lt;have hbp:b≠p.2.1:=by
    obtain⟨cur',hc'⟩:=ik (h.own p hpM);exact ja h.map hc'
   have h5:=(hg.block b hbl (fun e=>hbp (Option.some.inj e))).trans hbm;rw[<-e',hc]at h5;cases h5
  ·rw[hfo q.1 (hkey i q hq2 hij)];exact jJ (h.own q (List.mem_of_getElem? hq2)) fun k hk=>by
    injection hk with hk;subst hk;exact hownb q (List.mem_of_getElem? hq2) (hgne i q hq2 hij)
 ·obtain⟨i,hi⟩:=List.mem_iff_getElem?.1 hq;rcases hget i q hi with⟨rfl,rfl⟩ | ⟨hij,hq2⟩
  ·show f' p.1≠[];rw[hfp];simp
  ·rw[hfo q.1 (hkey i q hq2 hij)];exact h.ne q (List.mem_of_getElem? hq2)
 ·have e:(M.set j (p.1,g',c')).map (·.1)=M.map (·.1):=by
   refine List.ext_getElem? fun i=>?_;rw[List.getElem?_map,List.getElem?_set,List.getElem?_map];split
   ·rename_i e;subst e;try rw[if_pos hjl]
    rw[hj];rfl
   ·rfl
  rw[e];exact h.keys
 ·unfold List.Nodup;rw[List.pairwise_iff_getElem];intro i k hi0 hk0 hik e;rw[List.getElem_map,List.getElem_map]at e;rw[List.length_map]at hi0 hk0;obtain⟨q,hq'⟩:∃ q,(M.set j (p.1,g',c'))[i]=q:=⟨_,rfl⟩;obtain⟨r,hr'⟩:∃ r,(M.set j (p.1,g',c'))[k]=r:=⟨_,rfl⟩;rw[hq',hr']at e;have hq:(M.set j (p.1,g',c'))[i]?=some q:=by rw[dH hi0,hq']
  have hr:(M.set j (p.1,g',c'))[k]?=some r:=by rw[dH hk0,hr']
  have new:∀ i q,M[i]?=some q->i≠j->q.2.1≠g':=fun i q hi hij e=>by
   rcases hgg with e1 | e1
   ·exact hgne i q hi hij (e.trans e1)
   ·have:=(hlt q (List.mem_of_getElem? hi)).2;omega
  rcases hget i q hq with⟨rfl,rfl⟩ | ⟨hij,hq2⟩
  ·rcases hget k r hr with⟨h1,_⟩ | ⟨hkj,hr2⟩
   ·omega
   ·exact new k r hr2 hkj e.symm
  ·rcases hget k r hr with⟨rfl,rfl⟩ | ⟨hkj,hr2⟩
   ·exact new i q hq2 hij e
   ·have:=(List.getElem?_inj (i:=i) (j:=k) (by rw[List.length_map];exact(List.getElem?_eq_some_iff.1 hq2).1) h.gs).1 (by rw[List.getElem?_map,List.getElem?_map,hq2,hr2];simp[e]);omega
 ·have hsp:s≠p.1:=fun e=>hs (by
   rw[List.mem_map];exact⟨(p.1,g',c'),List.mem_iff_getElem?.2 ⟨j,by rw[List.getElem?_set_self hjl]⟩,e.symm⟩)
  rw[hfo s hsp];refine h.all s fun hm=>hs ?_;obtain⟨q,hq,rfl⟩:=List.mem_map.1 hm;obtain⟨i,hi⟩:=List.mem_iff_getElem?.1 hq;rw[List.mem_map];refine⟨q,List.mem_iff_getElem?.2 ⟨i,?_⟩,rfl⟩;rw[List.getElem?_set,if_neg (fun e=>hsp (by rw[<-e,hj]at hi;injection hi with hi;rw[hi]))];exact hi
theorem wP.new {w0 w w2 w3:World}{f f':Int->List It}{b:Nat}{M:List FU}(h:wP w0 w f b M){s:Int}{y:It}{v':Value}(hs:s∉M.map (·.1))(hf:∀ t,f' t=if t=s then [y]else f t)
  (hown:w2.ownsRow w0.heap.size 60 2 v' (0+1) [.int .i64 y.1,.int .i64 y.2]) (hg:w.grownBy w2 none) (hat:v'.ownBlock=none\/v'.ownBlock=some w.heap.size)
  (hm:bH Tryz.prog 61 w3 b (M.map (lV f)++[(.int .i64 s,v')])) (hg3:w2.grownBy w3 (some b)):∃ M',wP w0 w3 f' b M':=by
 obtain⟨g',c',rfl,hB',hlt'⟩:=kF hown;have hgg:g'=w.heap.size:=by
  rcases hat with e | e
  ·cases e
  ·exact Option.some.inj e
 have hlt:∀ q∈M,w0.heap.size<=q.2.1/\q.2.1<w.heap.size:=fun q hq=>iF (h.own q hq) q.2.1 rfl;have hbel2:aj w0 w2:=h.bel.grown hg h.bel.size (fun k e=>by cases e);have hbel3:aj w0 w3:=hbel2.grown hg3 hbel2.size (fun k e=>by injection e with e;subst e;exact h.ge);have hfs:f' s=[y]:=by rw[hf,if_pos rfl]
 have hfo:∀ q∈M,f' q.1=f q.1:=fun q hq=>by
  rw[hf,if_neg];exact fun e=>hs (List.mem_map.2 ⟨q,hq,e⟩)
 have hbl:=h.map.lt;refine⟨M++[(s,g',c')],hbel3,?_,fun q hq=>?_,fun q hq=>?_,?_,?_,fun t ht=>?_,h.ge⟩
 ·have e:(M++[(s,g',c')]).map (lV f')=M.map (lV f)++[(.int .i64 s,.slice (some ⟨g',0,none⟩) (0+1) c')]:=by
   rw[List.map_append];congr 1
   ·exact List.map_congr_left fun q hq=>by simp only[lV,wL,hfo q hq]
   ·simp[lV,wL,hfs]
  rw[e];exact hm
 ·rcases List.mem_append.1 hq with hq | hq
  ·rw[hfo q hq];refine jJ (h.own q hq) fun k hk=>?_;injection hk with hk;subst hk;have h1:=(hlt q hq).2;obtain⟨cur,hc⟩:=ik (h.own q hq);have h2:b≠q.2.1:=ja h.map hc;exact(hg3.block _ (Nat.lt_of_lt_of_le h1 hg.size) (fun e=>h2 (Option.some.inj e).symm)).trans (hg.block _ h1 (fun e=>by cases e))
  ·obtain rfl:q=(s,g',c'):=by simpa using hq
   show w3.ownsRow _ 60 2 (.slice (some ⟨g',0,none⟩) (f' s).length c') (f' s).length (icells (f' s));rw[hfs];refine jJ hown fun q hq=>?_;injection hq with hq;subst hq;exact hg3.block _ hlt' fun e=>by
    have e':g'=b:=Option.some.inj e;omega
 ·rcases List.mem_append.1 hq with hq | hq
  ·rw[hfo q hq];exact h.ne q hq
  ·obtain rfl:q=(s,g',c'):=by simpa using hq
   show f' s≠[];rw[hfs];simp
 ·rw[List.map_append,List.nodup_append];refine⟨h.keys,by simp,fun a ha t ht=>?_⟩;obtain rfl:t=s:=by simpa using ht
  exact fun e=>hs (e▸ha)
 ·rw[List.map_append,List.nodup_append];refine⟨h.gs,by simp,fun a ha t ht=>?_⟩;obtain rfl:t=g':=by simpa using ht
  obtain⟨q,hq,rfl⟩:=List.mem_map.1 ha;have:=(hlt q hq).2;omega
 ·rw[List.map_append,List.mem_append]at ht;have h1:t∉M.map (·.1):=fun e=>ht (.inl e);have h2:t≠s:=fun e=>ht (.inr (by simp[e]));rw[hf,if_neg h2];exact h.all t h1
theorem wP.mem {w0 w:World}{f:Int->List It}{b:Nat}{M:List FU}(h:wP w0 w f b M){p:FU}(hp:p∈M):(Value.int .i64 p.1,wL p (f p.1))∈M.map (lV f):=List.mem_map.2 ⟨p,hp,rfl⟩
theorem wP.none_ {w0 w:World}{f:Int->List It}{b:Nat}{M:List FU}(h:wP w0 w f b M){s:Int}(hs:s∉M.map (·.1)):∀ p∈M.map (lV f),p.1≠.int .i64 s:=fun p hp e=>by
 obtain⟨q,hq,rfl⟩:=List.mem_map.1 hp;have e':q.1=s:=by injection e
 exact hs (List.mem_map.2 ⟨q,hq,e'⟩)
open aO (It bu aY ax bg aX fD pK)
def StepsP (f:Int->List It)(w:World)(e:Ending)(w':World):Prop:=∃ b M,e=.returned (.map (some b))/\wP w w' f b M
theorem Jt {G:GD}{c:List It}{k:Nat}{x:It}{sy:Int}(hx:c[k]?=some x)(hb:aY G x=some sy)(t:Int):aX G (c.take (k+1)) t=if t=sy then aX G (c.take k) sy++[(x.1,x.2+1)]else aX G (c.take k) t:=by
 rw[aO.rW hx t,hb];by_cases h:t=sy
 ·subst h;simp
 ·rw[if_neg h,if_neg (fun e=>h (by injection e with e;exact e.symm)),List.append_nil]
theorem Ju {G:GD}{c:List It}{k:Nat}{x:It}(hx:c[k]?=some x)(hb:aY G x=none)(t:Int):aX G (c.take (k+1)) t=aX G (c.take k) t:=by
 rw[aO.rW hx t,hb,if_neg (by simp),List.append_nil]
theorem Jv {G:GD}{c:List It}{k:Nat}(t:Int):(aX G (c.take k) t).length<=c.length:=by
 unfold aO.aX;rw[List.length_map];refine eX (List.length_filter_le _ _) ?_;rw[List.length_take];omega
theorem Ku {w w':World}{B n b:Nat}{v:Value}{xs:List Value}{cs:Array Value}(hg:w.grownBy w' v.ownBlock)(ho:w.ownsRow B 60 2 v n xs)(hb:w.heap[b]?=some (.cells cs 27 (0,0))):w'.heap[b]?=some (.cells cs 27 (0,0)):=by
 refine(hg.block b (dZ hb) fun e=>?_).trans hb;rcases ho.2 with⟨rfl,_⟩ | ⟨g,cap,cur,rfl,_,hh,_⟩
 ·cases e
 ·have e':b=g:=Option.some.inj e;rw[<-e',hb]at hh;injection hh with hh;cases hh
theorem Gz {w w':World}{b g:Nat}{k:TypeId}{L:List (Value×Value)}{cs:Array Value}(hg:w.grownBy w' (some g))(hm:bH Tryz.prog k w g L)(hb:w.heap[b]?=some (.cells cs 27 (0,0))):w'.heap[b]?=some (.cells cs 27 (0,0)):=
 (hg.block b (dZ hb) fun e=>ja hm (by rw[<-Option.some.inj e];exact hb) rfl).trans hb
theorem H7 {G:GD}{gv v:Value}{w:World}{c:List It}(h:fZ w gv G)(hv:aB G=true)(hi:aS w v c)(hth:∀ x∈c,bu G x=true)(hl:c.length<=2000) :
  Calls Tryz.prog 61 #[gv,v] w (StepsP (aX G c) w):=by
 have HGr:=hid h;have HV:=hid hv;have HTH:=hid hth;have HI:=hid hi;obtain⟨vo,vc,rfl,hvn⟩:=hi.len;obtain⟨n,hln⟩:=ai (c.length);have HLN:=hid hln;obtain⟨tv,ov,sv,pv,tf,rv,h⟩:=h;have hgv:=h.eq;subst hgv;rw[hln]at HI hvn hl ⊢;clear h hi hln hth;obtain⟨W1,e1⟩:=ai (w.alloc (.cells #[tv,ov,sv,pv,.int .i64 G.start] 27));have hb1:aj w W1:=dM e1;have n1:W1.heap[w.heap.size]?=some (.cells #[tv,ov,sv,pv,.int .i64 G.start] 27 (0,0)):=dO e1;obtain⟨W2,e2⟩:=ai (W1.alloc (.map #[] 0));have hS0:=wP.start w W1 hb1;have hb2:aj W1 W2:=dM e2;rw[e2]at hS0;have HS0:=hid hS0;have HG0:=hid ((hb2.block _ (dZ n1)).trans n1);obtain⟨b,hb⟩:=ai (W1.heap.size);rw[hb]at HS0;clear hb1 n1 hS0 hb2;have hmm:=@run_makeMap Tryz.prog;go_enter Tryz.func61,Tryz.ntmps61;go_wp2_with fail;clear e1 e2
 go_loopw [7,8,9,13] (fun t7 t8 t9 t13 wr=>∃ (k:Nat) (M:List FU),k<=n/\t13=.int .i64 (k:Int)/\Hid (wP w wr (aX G (c.take k)) b M)/\Hid (wr.heap[w.heap.size]?=some (.cells #[tv,ov,sv,pv,.int .i64 G.start] 27 (0,0)))) (fun _ _ _ t13 _=>n-(RowKit.intOf t13).toNat)
 case atStart=>exact⟨0,[],Nat.zero_le _,rfl,hid (HS0.o.same fun s=>rfl),HG0⟩
 case round =>
  obtain⟨k,M,hk,rfl,HS,HG⟩:=hrel;by_cases hlt:k<n
  ·have t1:(k:Int)<(n:Int):=by omega
   have t2:(0:Int)<=(k:Int):=by omega
   obtain⟨x,hx⟩:∃ x,c[k]?=some x:=⟨_,dH (by rw[HLN.o];exact hlt)⟩;have HX:=hid hx;have hth:=HTH.o x (List.mem_of_getElem? hx);have hx2:0<=x.2/\x.2<=12:=by
    have h1:=aO.bW.1 hth;have h2:=aO.right_le HV.o h1.1 h1.2.1;omega
   have hwx:IntKind.i64.wrap (x.2+1)=x.2+1:=wrap_small (by omega) (by omega);have hszr:=HS.o.bel.size;obtain⟨lb,lo,rfl,q0,q1⟩:=HI.o.at_ hx;have q0:=cell_below HS.o.bel q0;have q1:=cell_below HS.o.bel q1;obtain⟨wx,ex⟩:=ai (wr.alloc (.cells #[.int .i64 0,.int .i64 0] 60));have nx:wx.heap[wr.heap.size]?=some (.cells #[.int .i64 0,.int .i64 0] 60 (0,0)):=dO ex;obtain⟨wa,ea⟩:=ai (wx.setCell ⟨wr.heap.size,0,none⟩ (.int .i64 x.1));obtain⟨wb,eb⟩:=ai (wa.setCell ⟨wr.heap.size,1,none⟩ (.int .i64 x.2));have na:wa.heap[wr.heap.size]?=some (.cells #[.int .i64 x.1,.int .i64 0] 60 (0,0)):=dK ea nx;have nb:wb.heap[wr.heap.size]?=some (.cells #[.int .i64 x.1,.int .i64 x.2] 60 (0,0)):=dK eb na;have hbb:aj wr wb:=by
    rw[<-eb,<-ea,<-ex];exact((((eH _ _).alloc (bJ _) _).setCell (bJ _) _).setCell (bJ _) _)
   have c0:ay wx wr.heap.size 0 (.int .i64 0):=ak nx 0;have f0:=bY nx 0;have c1:ay wa wr.heap.size 1 (.int .i64 0):=ak na 1;have f1:=bY na 1;have d0:ay wb wr.heap.size 0 (.int .i64 x.1):=ak nb 0;have d1:ay wb wr.heap.size 1 (.int .i64 x.2):=ak nb 1;have hGb:=(hbb.block _ (dZ HG.o)).trans HG.o;obtain⟨b0,b1,b2,b3,b4⟩:=cells5 hGb;have HSb:=hid (HS.o.below hbb);have hKB:=tu (HGr.o.below HSb.o.bel) HV.o x hth;obtain⟨sy,hsy⟩:=ai ((aY G x).getD 0);obtain⟨ok,hok⟩:=ai ((aY G x).isSome);unfold BehP mg at hKB;rw[hsy,hok]at hKB;have HBX:=hid (show aY G x=if ok=true then some sy else none from by
    rw[<-hsy,<-hok];cases aY G x<;>rfl)
   have KB:=hid hKB;have HNB:=hid nb;have HGB:=hid hGb;have lnb:=(dZ nb);clear hx hth nx na nb hbb hGb hKB hsy hok;go_wp2_with fail;refine KB.o.mono ?_;rintro e w5 ⟨rfl,hb5⟩;have HS5:=hid (HSb.o.below hb5);have HG5:=hid ((hb5.block _ (dZ HGB.o)).trans HGB.o);have n5:=(hb5.block _ lnb).trans HNB.o;have d0:ay w5 wr.heap.size 0 (.int .i64 x.1):=ak n5 0;have d1:ay w5 wr.heap.size 1 (.int .i64 x.2):=ak n5 1;clear hb5 KB HSb HGB HNB n5 c0 f0 c1 f1 b0 b1 b2 b3 b4 ex ea eb q0 q1 HS HG;cases ok
   ·have HS6:=hid (HS5.o.same (Ju HX.o HBX.o));go_wp2_with fail;refine⟨⟨k+1,M,by omega,rfl,HS6,HG5⟩,?_⟩;show n-((k:Int)+1).toNat<n-((k:Int)).toNat;omega
   ·have hbx:aY G x=some sy:=HBX.o;have hrg:=Ae HV.o hbx;have hkey:=Kt (s:=sy) (by omega) (by omega);have HF:=hid (Jt HX.o hbx);obtain⟨F,hF⟩:=ai (aX G (c.take k));have hFl:∀ t,(F t).length<=2000:=fun t=>by rw[<-hF];exact eX (Jv t) (by rw[HLN.o];exact hl)
    rw[hF]at HS5 HF;obtain⟨wq,eq⟩:=ai (w5.alloc (.cells #[.int .i64 x.1,.int .i64 (x.2+1)] 60));have hbq:aj w5 wq:=dM eq;have HNQ:=hid (show wq.heap[w5.heap.size]?=some (.cells #[.int .i64 x.1,.int .i64 (x.2+1)] 60 (0,0))from by rw[<-eq];exact aK _ _);have HSq:=hid (HS5.o.below hbq);have HGq:=hid ((hbq.block _ (dZ HG5.o)).trans HG5.o);have hdq:=HSq.o.bel.size;clear hbq hbx hF;by_cases hin:sy∈M.map (·.1)
    ·obtain⟨p,hpM,hpe⟩:=List.mem_map.1 hin;obtain⟨j,hj⟩:=List.mem_iff_getElem?.1 hpM;subst hpe;have HP:=hid (And.intro hpM hj);have HME:=hid (HS5.o.mem hpM);have hpl:=hFl p.1;obtain⟨ln,hln2⟩:=ai ((F p.1).length);have HLE:=hid hln2;unfold wL at HME;rw[hln2]at HME hpl;have HOq:=HSq.o.own p hpM;unfold wL at HOq;rw[hln2]at HOq;have HOq:=hid HOq;clear hin hpM hj hln2 hFl;go_wp2_with (first | (at_lookup;refine tX rfl (.tmp 26) (.tmp 27) 124 rfl ru Tryz.underlying124 rfl HS5.o.map (.int .i64 p.1) (.slice (some ⟨p.2.1,0,none⟩) ln p.2.2) (.int .i64 p.1) rfl hkey HME.o ?_) | (at_builtin;refine nX rfl (.tmp 28) (.tmp 35) rfl w.heap.size (.slice (some ⟨p.2.1,0,none⟩) ln p.2.2) ln (icells (F p.1)) rfl HOq.o w5.heap.size rfl x.1 (x.2+1) HNQ.o (by omega) hdq ?_));intro v7 w7 hown7 hg7 hat7;have hmk:bH Tryz.prog 61 w7 b (M.map (lV F)):=HSq.o.map.kept (hg7.block b HSq.o.map.lt (fun e=>by
      obtain⟨cur,hc⟩:=ik HOq.o;exact ja HSq.o.map hc (Option.some.inj e)))
     have HMK:=hid hmk;have HG7:=hid (Ku hg7 HOq.o HGq.o);have HO7:=hid (And.intro hown7 (And.intro hg7 hat7));have HU:=hid (show(M.map (lV F))[j]?=some (.int .i64 p.1,wL p (F p.1))from by rw[List.getElem?_map,HP.o.2];rfl);clear hmk hown7 hg7 hat7 eq d0 d1;go_wp2_with (at_mapUpdate;refine yS rfl (.tmp 24) (.tmp 25) (.tmp 36) 124 (.inl rfl) ru Tryz.underlying124 rfl HMK.o (.int .i64 p.1) v7 (.int .i64 p.1) rfl rfl hkey j (wL p (F p.1)) HU.o ?_);intro w8 hm8 hg8;obtain⟨M',hM'⟩:=HSq.o.more (y:=(x.1,x.2+1)) (f':=aX G (c.take (k+1))) HP.o.2 HF.o (by rw[HLE.o];exact HO7.o.1) HO7.o.2.1 HO7.o.2.2 hm8 hg8;have HS8:=hid hM';have HG8:=hid (Gz hg8 HMK.o HG7.o);clear hm8 hg8 hM';go_wp2_with fail;refine⟨⟨k+1,M',by omega,rfl,HS8,HG8⟩,?_⟩;show n-((k:Int)+1).toNat<n-((k:Int)).toNat;omega
    ·have HIN:=hid hin;have HNN:=hid (HS5.o.none_ hin);have HNL:=hid (World.ownsRow_nil wq w.heap.size 60 2);clear hin hFl;go_wp2_with (first | (at_lookup;refine tY rfl (.tmp 26) (.tmp 27) 124 rfl ru Tryz.underlying124 rfl HS5.o.map (.int .i64 sy) (.slice none 0 0) (.int .i64 sy) rfl hkey (Ji _) HNN.o ?_) | (at_builtin;refine nX rfl (.tmp 28) (.tmp 35) rfl w.heap.size (.slice none 0 0) 0 [] rfl HNL.o w5.heap.size rfl x.1 (x.2+1) HNQ.o (by omega) hdq ?_));intro v7 w7 hown7 hg7 hat7;have hmk:bH Tryz.prog 61 w7 b (M.map (lV F)):=HSq.o.map.kept (hg7.block b HSq.o.map.lt (fun e=>by cases e));have HMK:=hid hmk;have HG7:=hid (Ku hg7 HNL.o HGq.o);have HO7:=hid (And.intro hown7 (And.intro hg7 hat7));have HNN:=hid (HSq.o.none_ HIN.o);clear hmk hown7 hg7 hat7 eq d0 d1;go_wp2_with (at_mapUpdate;refine rV rfl (.tmp 24) (.tmp 25) (.tmp 36) 124 (.inl rfl) ru Tryz.underlying124 rfl HMK.o (.int .i64 sy) v7 (.int .i64 sy) rfl rfl hkey HNN.o ?_);intro w8 hm8 hg8;have HF2:=hid (show ∀ t,aX G (c.take (k+1)) t=if t=sy then [(x.1,x.2+1)]else F t from fun t=>by rw[HF.o t,HSq.o.all sy HIN.o,List.nil_append]);obtain⟨M',hM'⟩:=HSq.o.new (y:=(x.1,x.2+1)) HIN.o HF2.o HO7.o.1 HO7.o.2.1 HO7.o.2.2 hm8 hg8;have HS8:=hid hM';have HG8:=hid (Gz hg8 HMK.o HG7.o);clear hm8 hg8 hM';go_wp2_with fail;refine⟨⟨k+1,M',by omega,rfl,HS8,HG8⟩,?_⟩;show n-((k:Int)+1).toNat<n-((k:Int)).toNat;omega
  ·have t1:¬ (k:Int)<(n:Int):=by omega
   have hkn:k=n:=by omega
   have HS9:=hid (show wP w wr (aX G c) b M from by
    have:=HS.o;rw[hkn,<-HLN.o,List.take_length]at this;exact this)
   clear hkn;go_wp2_with fail;go_ret;exact⟨b,M,rfl,HS9.o⟩
end Go.Proofs.YticmnfmijdgmbaaGreatDoor
