import Derived.Test.YticmnfmijdgmbaaGreatDoorZe
import Derived.Test.YticmnfmijdgmbaaGreatDoorZi
set_option linter.all false
set_option maxRecDepth 100000
set_option maxHeartbeats 8000000
namespace Go.Proofs.YticmnfmijdgmbaaGreatDoor
open Go Go.RowKit Go.Lib
open aO (It)
open aJ (u64)
open wQ
theorem info94:(Tryz.prog.info? 94).map (fun i=>(i.zero,i.size,i.bytes))=some (some (.agg #[.int .i64 0,.int .i64 0]),2,16):=by kernel_rfl
def dW (cnt:Nat->Nat->Nat)(i:Nat):Nat->List It
 | 0=>[]
 | k+1=>dW cnt i k++(if 1<cnt i k then [((i:Int),(k:Int))]else [])
def jG (cnt:Nat->Nat->Nat)(m:Nat):Nat->List It
 | 0=>[]
 | i+1=>jG cnt m i++dW cnt i m
theorem vO (cnt:Nat->Nat->Nat)(i:Nat):∀ k,(dW cnt i k).length<=k
 | 0=>bJ _
 | k+1=>by
  have:=vO cnt i k;unfold dW;rw[List.length_append];split<;>simp<;>omega
theorem GY (cnt:Nat->Nat->Nat)(m:Nat):∀ i,(jG cnt m i).length<=i*m
 | 0=>by simp[jG]
 | i+1=>by
  have:=GY cnt m i;have:=vO cnt i m;unfold jG;rw[List.length_append,Nat.add_mul];omega
def ClashP (cnt:Nat->Nat->Nat)(n m:Nat)(w:World)(e:Ending)(w':World):Prop:=
 ∃ v,e=.returned v/\aj w w'/\aI w' w.heap.size 2 v (jG cnt m n).length (dC (jG cnt m n))
theorem wF {v:Value}{w:World}{n m:Nat}{cnt:Nat->Nat->Nat}(h:bz w v n (fun i u=>bz w u m (fun k u'=>∃ o c,u'=.slice o (cnt i k) c)))(hn:n<=100000)(hm:m<=1000) :
  Calls Tryz.prog 79 #[v] w (ClashP cnt n m w):=by
 have HV:=hid h;obtain⟨vo,vc,rfl,_⟩:=h.len;have HF:=hid (show az w.heap.size w w [aA w.heap.size 2 (.slice none 0 0) (([]:List It)).length (dC (([]:List It)))]from lU (az.empty w w.heap.size (bJ _)));clear h;go_enter Tryz.func79,Tryz.ntmps79;go_wp2_with fail
 go_loopw [3,10] (fun t3 t10 wr=>∃ (i:Nat) (v:Value),i<=n/\v=t3/\t10=.int .i64 (i:Int)/\Hid (az w.heap.size w wr [aA w.heap.size 2 v (jG cnt m i).length (dC (jG cnt m i))])) (fun _ t10 _=>n-(RowKit.intOf t10).toNat)
 case atStart=>exact⟨0,_,Nat.zero_le _,rfl,rfl,HF⟩
 case round =>
  clear HF;obtain⟨i,v,hiN,rfl,rfl,HF⟩:=hrel;by_cases hlt:i<n
  ·have j1:(i:Int)<(n:Int):=by omega
   have j0:(0:Int)<=(i:Int):=by omega
   obtain⟨b,off,u,rfl,u1,u2⟩:=HV.o.at_ hlt;obtain⟨uo,uc,rfl,_⟩:=u2.len;have r0:=cell_below HF.o.bel u1;have HU:=hid u2;clear u1 u2;go_wp2_with fail;clear r0
   go_loopw [3,17] (fun t3 t17 wq=>∃ (k:Nat) (v:Value),k<=m/\v=t3/\t17=.int .i64 (k:Int)/\Hid (az w.heap.size w wq [aA w.heap.size 2 v (jG cnt m i++dW cnt i k).length (dC (jG cnt m i++dW cnt i k))])) (fun _ t17 _=>m-(RowKit.intOf t17).toNat)
   case atStart=>exact⟨0,_,Nat.zero_le _,rfl,rfl,hid (by rw[show dW cnt i 0=[]from rfl,List.append_nil];exact HF.o)⟩
   case round =>
    clear HF;obtain⟨k,v2,hkM,rfl,rfl,HF⟩:=hrel;by_cases hkl:k<m
    ·have k1:(k:Int)<(m:Int):=(by omega);have k0:(0:Int)<=(k:Int):=(by omega);obtain⟨b2,off2,u',rfl,z1,o3,c3,rfl⟩:=HU.o.at_ hkl;have r1:=cell_below HF.o.bel z1;obtain⟨cn,hcn⟩:=ai (cnt i k);rw[hcn]at r1;have HC:=hid hcn;clear z1 hcn;by_cases hc:1<cn
     ·have d0:(1:Int)<(cn:Int):=(by omega);have d1:decide ((1:Int)<(cn:Int))=true:=eP d0;have d2:decide (1<cn)=true:=eP hc;have HS:=hid (show dW cnt i (k+1)=dW cnt i k++[((i:Int),(k:Int))]from by show dW cnt i k++_=_;rw[HC.o,if_pos hc]);obtain⟨vo2,vc2,rfl⟩:=(show aI wr w.heap.size 2 v2 _ _ from HF.o.ok 0 _ rfl).shape;obtain⟨wz,eq⟩:=ai (wr.alloc (.cells #[.int .i64 (i:Int),.int .i64 (k:Int)] 94));have nq:wz.heap[wr.heap.size]?=some (.cells #[.int .i64 (i:Int),.int .i64 (k:Int)] 94 (0,0)):=dO eq;have HFq:=hid (HF.o.below (show aj wr wz by exact dM eq));have HCQ:=hid (show ∀ j u,[Value.int .i64 (i:Int),.int .i64 (k:Int)][j]?=some u->wz.cell? ⟨wr.heap.size,j,none⟩=some u from fun j u hi=>by
       rw[ak nq,<-hi,<-List.getElem?_toArray])
      have HOQ:=hid (show ∀ q∈[Value.int .i64 (i:Int),.int .i64 (k:Int)],q.oneCell'=true from fun q hq=>gW rfl rfl q hq);have HBq:=hid (show w.heap.size<=wz.heap.size from eX HFq.o.le HFq.o.bel.size);have hll:(jG cnt m i++dW cnt i k).length<=1000000000000:=by
       have h1:=GY cnt m i;have h2:=vO cnt i k;have h3:i*m<=100000*1000:=Nat.mul_le_mul (by omega) hm;rw[List.length_append];omega
      have HLL:=hid hll;have HOW:=hid (show aI wz w.heap.size 2 (.slice vo2 (jG cnt m i++dW cnt i k).length vc2) _ _ from HFq.o.ok 0 _ rfl);obtain⟨ll,hll2⟩:=ai ((jG cnt m i++dW cnt i k).length);rw[hll2]at HOW HLL HFq ⊢;have HL2:=hid hll2;clear nq HF hll hll2;go_wp2_with (refine aU rfl (.tmp 25) (.tmp 29) 23 94 rfl (.agg #[.int .i64 0,.int .i64 0]) 2 16 Tryz.underlying23 info94 rfl (by decide) (.slice vo2 ll vc2) ll (dC (jG cnt m i++dW cnt i k)) rfl HOW.o wr.heap.size rfl [.int .i64 (i:Int),.int .i64 (k:Int)] rfl HCQ.o HOQ.o HLL.o HBq.o ?_);intro ao2 c8 w8 hown hg8 hat;have h8:=HFq.o.bU 0 rfl hown hg8 hat;have e8:ll+1=(jG cnt m i++dW cnt i (k+1)).length:=by rw[HS.o,<-List.append_assoc,List.length_append,HL2.o];rfl
      have e9:dC (jG cnt m i++dW cnt i k)++[.int .i64 (i:Int),.int .i64 (k:Int)]=dC (jG cnt m i++dW cnt i (k+1)):=by rw[HS.o,<-List.append_assoc,kM (jG cnt m i++dW cnt i k)];rfl
      rw[e8,e9]at h8;rw[e8];have HF8:=hid h8;clear h8 hown hg8 hat e8 e9 eq r1;go_wp2_with fail;refine⟨⟨k+1,_,by omega,rfl,rfl,HF8⟩,?_⟩;show m-((k:Int)+1).toNat<m-((k:Int)).toNat;omega
     ·have d0:¬ (1:Int)<(cn:Int):=(by omega);have d1:decide ((1:Int)<(cn:Int))=false:=dA d0;have d2:decide (1<cn)=false:=dA hc;have HS:=hid (show dW cnt i (k+1)=dW cnt i k from by show dW cnt i k++_=_;rw[HC.o,if_neg hc,List.append_nil]);have HF8:=hid (show az w.heap.size w wr [aA w.heap.size 2 v2 (jG cnt m i++dW cnt i (k+1)).length (dC (jG cnt m i++dW cnt i (k+1)))]from by rw[HS.o];exact HF.o);clear HF;go_wp2_with fail;refine⟨⟨k+1,_,by omega,rfl,rfl,HF8⟩,?_⟩;show m-((k:Int)+1).toNat<m-((k:Int)).toNat;omega
    ·have k1:¬ (k:Int)<(m:Int):=(by omega);obtain rfl:k=m:=(by omega);have HF8:Hid (az w.heap.size w wr [aA w.heap.size 2 v2 (jG cnt k (i+1)).length (dC (jG cnt k (i+1)))]):=HF;clear HF;go_wp2_with fail;refine⟨⟨i+1,_,by omega,rfl,rfl,HF8⟩,?_⟩;show n-((i:Int)+1).toNat<n-((i:Int)).toNat;omega
  ·have j1:¬ (i:Int)<(n:Int):=by omega
   obtain rfl:i=n:=by omega
   have HOW:=hid (show aI wr w.heap.size 2 _ _ _ from HF.o.ok 0 _ rfl);have HBE:=hid HF.o.bel;clear HF;go_wp2_with fail;go_ret;exact⟨_,rfl,HBE.o,HOW.o⟩
open aJ.cZ (Pl)
theorem JJ:∀ (l:List (Int×Nat))(i:Nat),i<l.length->(pC l)[i*2]?=some (.int .i64 (l.getD i (0,0)).1)/\(pC l)[i*2+1]?=some (u64 (l.getD i (0,0)).2)
 | [],i,h=>by simp at h
 | x::l,0,_=>⟨rfl,rfl⟩
 | x::l,i+1,h=>by
  obtain⟨h1,h2⟩:=JJ l i (by simpa using h);have e:pC (x::l)=.int .i64 x.1::u64 x.2::pC l:=rfl;rw[e,show(i+1)*2=i*2+1+1 from by omega,List.getElem?_cons_succ,List.getElem?_cons_succ,List.getElem?_cons_succ,List.getElem?_cons_succ];exact⟨by simpa using h1,by simpa using h2⟩
theorem tJ.nZ {w:World}{B:Nat}{v:Value}{l:List (Int×Nat)}(h:aI w B 2 v l.length (pC l)):tJ w v l:=by
 obtain⟨hl,⟨rfl,h0⟩ | ⟨g,off,cap,rfl,_,_,h1,h2,h3,_⟩⟩:=h
 ·exact⟨none,0,by rw[h0],by omega,fun h=>absurd h (by omega)⟩
 ·refine⟨_,_,rfl,by unfold maxLen at h2;omega,fun _=>⟨g,off,rfl,fun i hi=>?_⟩⟩;obtain⟨k0,k1⟩:=JJ l i hi;exact⟨h3 _ _ k0,by rw[Nat.add_assoc];exact h3 _ _ k1⟩
theorem bz.nZ {w:World}{B:Nat}{v:Value}{xs:List Value}{p:Nat->Value->Prop}(h:aI w B 1 v xs.length xs)(hp:∀ i u,xs[i]?=some u->p i u):bz w v xs.length p:=by
 obtain⟨hl,⟨rfl,h0⟩ | ⟨g,off,cap,rfl,_,_,h1,h2,h3,_⟩⟩:=h
 ·exact⟨none,0,by rw[h0],by omega,fun h=>absurd h (by omega)⟩
 ·refine⟨_,_,rfl,by unfold maxLen at h2;omega,fun _=>⟨g,off,rfl,fun i hi=>⟨xs[i],h3 _ _ (dH hi),hp _ _ (dH hi)⟩⟩⟩
noncomputable def dE (G:GD) (nx:List (List Int)) (C:Nat->List It) (A:Pl->Nat) (i k:Nat):List It:=jU G nx (i:Int) k (gV G (C i) ((C i).map fun x=>A (i,x)))
def iT (D:Nat->List It)(R:List (Value×Nat×List Value))(cs:List Value):Prop:=∀ k u,cs[k]?=some u->(u,(D k).length,dC (D k))∈R
theorem iT.nil (D:Nat->List It)(R:List (Value×Nat×List Value)):iT D R []:=fun k u h=>by simp at h
theorem iT.push {D:Nat->List It}{R:List (Value×Nat×List Value)}{cs:List Value}(h:iT D R cs)(u:Value):iT D (R++[(u,(D cs.length).length,dC (D cs.length))]) (cs++[u]):=fun k x hx=>by
 by_cases hk:k<cs.length
 ·rw[List.getElem?_append_left hk]at hx;exact List.mem_append_left _ (h k x hx)
 ·have hl:=(List.getElem?_eq_some_iff.1 hx).1;rw[List.length_append]at hl;have hl:k<cs.length+1:=hl;obtain rfl:k=cs.length:=by omega
  rw[List.getElem?_append_right (bJ _),Nat.sub_self]at hx;obtain rfl:u=x:=by simpa using hx
  exact List.mem_append_right _ (List.mem_singleton.2 rfl)
theorem iT.more {D:Nat->List It}{R R':List (Value×Nat×List Value)}{cs:List Value}(h:iT D R cs):iT D (R++R') cs:=fun k u hu=>List.mem_append_left _ (h k u hu)
def dQ (D:Nat->Nat->List It)(m:Nat)(R:List (Value×Nat×List Value))(CV:List (Value×List Value)):Prop:=∀ i c,CV[i]?=some c->c.2.length=m/\iT (D i) R c.2
theorem dQ.nil (D:Nat->Nat->List It)(m:Nat)(R:List (Value×Nat×List Value)):dQ D m R []:=fun i c h=>by simp at h
theorem dQ.more {D:Nat->Nat->List It}{m:Nat}{R R':List (Value×Nat×List Value)}{CV:List (Value×List Value)}(h:dQ D m R CV):dQ D m (R++R') CV:=fun i c hc=>⟨(h i c hc).1,(h i c hc).2.more⟩
theorem dQ.push {D:Nat->Nat->List It}{m:Nat}{R:List (Value×Nat×List Value)}{CV:List (Value×List Value)}(h:dQ D m R CV){v:Value}{cs:List Value}(hl:cs.length=m)(hc:iT (D CV.length) R cs):dQ D m R (CV++[(v,cs)]):=fun i c hx=>by
 by_cases hk:i<CV.length
 ·rw[List.getElem?_append_left hk]at hx;exact h i c hx
 ·have hl2:=(List.getElem?_eq_some_iff.1 hx).1;rw[List.length_append]at hl2;have hl2:i<CV.length+1:=hl2;obtain rfl:i=CV.length:=by omega
  rw[List.getElem?_append_right (bJ _),Nat.sub_self]at hx;obtain rfl:(v,cs)=c:=by simpa using hx
  exact⟨hl,hc⟩
open aO (It ag aN aP ax aY bg cO rP bu)
open aJ (u64 aZ top E0 F0 fM gu Least fV qJ ofRow isK nU eG dN gy nD fC)
open aJ.cZ (Pl dm dJ places bi Cx Eo zY mem_places iV fE jo iK yw xX pV dV jS Ag)
namespace wQ
def BN (D:Nat->Nat->List It)(T:Nat)(i:Nat)(t:Int):LR.Do:=
 if t=63\/0<=t/\t<(T:Int)then(match (D i (if t=63 then T else t.toNat)).head? with
  | none=>.wrong
  | some x=>if x.1=1 then .shift x.2.toNat else if x.1=2 then .red x.2 else .acc)else .wrong
noncomputable def mG (G:GD) (n:Nat) (D:Nat->Nat->List It):LR.lK where
 rt p:=ax G p
 srt q:=-1-bg G q.toNat
 isP q:=0<=q/\q<(G.prods.length:Int)
 C i p d:=i<n/\(p,(d:Int))∈(bi G n (E0 G) (F0 G)).C i
 go i s:=ng G (ag G n).nx (i:Int) s
 act:=BN D G.terms.length
section
variable {G:GD}{n:Nat}{D:Nat->Nat->List It}{A:Pl->Nat}
theorem jO {p:PD}{q:Nat}(h:G.prods[q]?=some p):(mG G n D).srt (q:Int)=-1-p.sort:=by
 show -1-bg G ((q:Int)).toNat=_;rw[Int.toNat_natCast];unfold aO.bg;rw[dL,h];rfl
theorem xH {p:PD}{q:Nat}(h:G.prods[q]?=some p):(mG G n D).rt (q:Int)=p.rs:=by
 show ax G (q:Int)=_;unfold aO.ax;rw[if_neg (by omega),Int.toNat_natCast,dL,h];rfl
theorem Ky {p:PD}{q:Nat}(h:G.prods[q]?=some p):(mG G n D).isP (q:Int):=by
 have:=(List.getElem?_eq_some_iff.1 h).1;exact⟨by omega,by omega⟩
theorem jB {q:Int}(h:(mG G n D).isP q):∃ p,G.prods[q.toNat]?=some p/\((q.toNat:Nat):Int)=q:=by
 obtain⟨h1,h2⟩:=h;exact⟨_,dH (by omega),by omega⟩
theorem row_of {p:PD}(hV:aB G=true){q:Nat}(h:G.prods[q]?=some p):0<=p.sort/\p.sort<G.sorts.length/\nU G.terms.length G.sorts.length p.rs:=gy hV p (List.mem_of_getElem? h)
theorem JW (hV:aB G=true){L:List Bool}(h:aJ.Reach false G.prods (List.replicate G.sorts.length false) L):∀ s:Int,isK false L s=true->LR.En (mG G n D) s:=by
 induction h with
 | refl =>
  intro s hs;unfold aJ.isK at hs;split at hs
  ·rw[dL,List.getElem?_replicate]at hs;split at hs<;>simp at hs
  ·cases hs
 | step hr hp ih =>
  rename_i L p;intro s hs;have hs0:s<0:=by
   unfold aJ.isK at hs;split at hs
   ·assumption
   ·cases hs
  unfold aJ.isK at hs;rw[if_pos hs0]at hs;unfold aJ.gJ at hs;rw[dL,List.getElem?_set]at hs;have old:L.getD (-1-s).toNat false=true->LR.En (mG G n D) s:=fun h=>ih s (by unfold aJ.isK;rw[if_pos hs0];exact h);split at hs
  ·rename_i e;split at hs
   ·rw[Option.getD_some,Bool.or_eq_true]at hs;rcases hs with hs | hs
    ·exact old (by rw[<-e];exact hs)
    ·obtain⟨q,hq⟩:=List.mem_iff_getElem?.1 hp;have h0:=(row_of hV hq).1;have e2:s=-1-p.sort:=by omega
     rw[e2,<-jO (n:=n) (D:=D) hq];refine .mk (q:Int) (Ky hq) ?_;rw[xH hq];exact fun x hx=>ih x (List.all_eq_true.1 hs x hx)
   ·cases hs
  ·exact old (by rw[dL];exact hs)
theorem ER (hV:aB G=true){s:Int}(h:LR.En (mG G n D) s):isK false (E0 G) s=true:=by
 induction h with
 | mk q hq hs ih =>
  obtain⟨p,hp,hq'⟩:=jB hq;have h0:=(row_of hV hp).1;rw[<-hq',jO hp];unfold aJ.isK;rw[if_pos (by omega),show(-1-(-1-p.sort)).toNat=p.sort.toNat by omega];refine(nD hV).2 p (List.mem_of_getElem? hp) (List.all_eq_true.2 fun x hx=>ih x ?_);rw[<-hq',xH hp];exact hx
theorem Dn (hV:aB G=true)(l:List Int)(hl:nU G.terms.length G.sorts.length l):pV (E0 G) (F0 G).length l=true↔∀ s∈l,LR.En (mG G n D) s:=by
 have hF:(F0 G).length=G.sorts.length:=(fC hV).length;induction l with
 | nil=>exact⟨fun _ s hs=>(by cases hs),fun _=>rfl⟩
 | cons s l ih =>
  have ih:=ih fun x hx=>hl x (List.mem_cons_of_mem _ hx);have hs:=hl s List.mem_cons_self;unfold aJ.cZ.pV;by_cases h0:0<=s
  ·rw[if_pos h0];refine⟨fun h=>by(cases h),fun h=>?_⟩;have:=ER hV (h s List.mem_cons_self);unfold aJ.isK at this;rw[if_neg (by omega)]at this;exact this
  ·rw[if_neg h0,if_neg (by omega),Bool.and_eq_true];have e:(E0 G).getD (-1-s).toNat false=isK false (E0 G) s:=by unfold aJ.isK;rw[if_pos (by omega)]
   rw[e];constructor
   ·rintro⟨h1,h2⟩ x hx;rcases List.mem_cons.1 hx with rfl | hx
    ·exact JW hV (nD hV).1 _ h1
    ·exact ih.1 h2 x hx
   ·exact fun h=>⟨ER hV (h s List.mem_cons_self),ih.2 fun x hx=>h x (List.mem_cons_of_mem _ hx)⟩
theorem Bz (hV:aB G=true){L:List Nat}(hL:L.length=G.sorts.length){t:Nat}(ih:∀ s:Nat,(L.getD s 0).testBit t=true->∃ q:Int,(mG G n D).isP q/\(mG G n D).srt q=-1-(s:Int)/\LR.FT (mG G n D) ((mG G n D).rt q) t) :
  ∀ l:List Int,nU G.terms.length G.sorts.length l->(ofRow G.terms.length (E0 G) L l 0).testBit t=true->LR.FT (mG G n D) l t
 | [],_,h=>by unfold aJ.ofRow at h;simp at h
 | s::l,hl,h=>by
  have ihl:=Bz hV hL ih l fun x hx=>hl x (List.mem_cons_of_mem _ hx);have hs:=hl s List.mem_cons_self;unfold aJ.ofRow at h;by_cases h0:0<=s
  ·rw[if_pos h0,if_pos (by omega),dN]at h;have e:=(of_decide_eq_true h).2.2;rw[<-e];exact .head _ l (by omega)
  ·rw[if_neg h0,if_neg (by omega),Nat.testBit_or,Bool.or_eq_true]at h;rcases h with h | h
   ·obtain⟨q,h1,h2,h3⟩:=ih _ h;rw[show s=(mG G n D).srt q by rw[h2];omega];exact .sort q l t h1 h3
   ·split at h
    ·rename_i he;exact .skip s l t (JW hV (nD hV).1 s (by unfold aJ.isK;rw[if_pos (by omega)];exact he)) (ihl h)
    ·simp at h
theorem fst_of (hV:aB G=true){L:List Nat}(h:aJ.ji (qJ G.terms.length (E0 G) G.prods) (List.replicate G.sorts.length 0) L){t:Nat} : ∀ s:Nat,(L.getD s 0).testBit t=true->∃ q:Int,(mG G n D).isP q/\(mG G n D).srt q=-1-(s:Int)/\LR.FT (mG G n D) ((mG G n D).rt q) t:=by
 induction h with
 | refl =>
  intro s hs;rw[dL,List.getElem?_replicate]at hs;split at hs<;>simp at hs
 | step hr hp ih =>
  rename_i L e;intro s hs;unfold aJ.stepS at hs;rw[dL,List.getElem?_set]at hs;have hLl:L.length=G.sorts.length:=by rw[aJ.nY hr];simp
  split at hs
  ·rename_i e1;split at hs
   ·rw[Option.getD_some,Nat.testBit_or,Bool.or_eq_true]at hs;rcases hs with hs | hs
    ·exact ih s (by rw[<-e1];exact hs)
    ·obtain⟨p,hp2,rfl⟩:=List.mem_map.1 hp;obtain⟨q,hq⟩:=List.mem_iff_getElem?.1 hp2;have h0:=row_of hV hq;have e1:p.sort.toNat=s:=e1;refine⟨(q:Int),Ky hq,by rw[jO hq];omega,?_⟩;rw[xH hq];exact Bz hV hLl ih p.rs h0.2.2 hs
   ·simp at hs
  ·exact ih s (by rw[dL];exact hs)
theorem row_drop {l:List Int}(hl:nU G.terms.length G.sorts.length l)(k:Nat):nU G.terms.length G.sorts.length (l.drop k):=fun x hx=>hl x (List.mem_of_mem_drop hx)
theorem Gg (hV:aB G=true)(p:Int)(h1:-1<=p)(h2:p<(G.prods.length:Int)):nU G.terms.length G.sorts.length (ax G p):=by
 unfold aO.ax;by_cases h:p=-1
 ·rw[if_pos h];intro s hs;have:=aJ.dR hV;obtain rfl:s=-1-G.start:=by simpa using hs
  right;omega
 ·rw[if_neg h,dL,dH (by omega)];exact(gy hV _ (List.getElem_mem _)).2.2
theorem Lh (hV:aB G=true){l:List Int}(hl:nU G.terms.length G.sorts.length l){t:Nat}(h:(ofRow G.terms.length (E0 G) (F0 G) l 0).testBit t=true):LR.FT (mG G n D) l t:=
 Bz hV (fC hV).length (fst_of hV (fC hV).1) l hl h
theorem D9 (hV:aB G=true){l:List Int}{t:Int}(h:LR.FT (mG G n D) l t):nU G.terms.length G.sorts.length l->(ofRow G.terms.length (E0 G) (F0 G) l 0).testBit t.toNat=true/\0<=t/\t<(G.terms.length:Int):=by
 have hF:(F0 G).length=G.sorts.length:=(fC hV).length;have h60:=(aJ.gm hV).1;induction h with
 | head t l h0 =>
  intro hl;have hs:=hl t List.mem_cons_self;unfold aJ.ofRow;rw[if_pos h0,if_pos (by omega),dN];exact⟨eP ⟨h0,by omega,by omega⟩,by omega,by omega⟩
 | sort q l t hq hf ih =>
  intro hl;obtain⟨p,hp,hq'⟩:=jB hq;have h0:=row_of hV hp;have ih:=ih (by rw[<-hq',xH hp];exact h0.2.2);rw[<-hq',xH hp]at ih;refine⟨?_,ih.2⟩;rw[<-hq',jO hp];unfold aJ.ofRow;rw[if_neg (by omega),if_neg (by omega),Nat.testBit_or,Bool.or_eq_true];left;have hc:=(fC hV).2.1 (p.sort.toNat,fun L=>ofRow G.terms.length (E0 G) L p.rs 0) (List.mem_map.2 ⟨p,List.mem_of_getElem? hp,rfl⟩);rw[show(-1-(-1-p.sort)).toNat=p.sort.toNat by omega];exact eG.1 hc _ ih.1
 | skip s l t hn hf ih =>
  intro hl;have hs:=hl s List.mem_cons_self;have ih:=ih fun x hx=>hl x (List.mem_cons_of_mem _ hx);have he:=ER hV hn;have hs0:s<0:=by
   unfold aJ.isK at he;split at he
   ·assumption
   ·cases he
  unfold aJ.isK at he;rw[if_pos hs0]at he;refine⟨?_,ih.2⟩;unfold aJ.ofRow;rw[if_neg (by omega),if_neg (by omega),Nat.testBit_or,Bool.or_eq_true];right;rw[if_pos he];exact ih.1
noncomputable def maskN (P:Nat->Prop):Nat->Nat
 | 0=>0
 | k+1=>open Classical in maskN P k ||| (if P k then 2 ^ k else 0)
theorem mZ (P:Nat->Prop):∀ (k b:Nat),(maskN P k).testBit b=true↔(b<k/\P b)
 | 0,b=>by unfold maskN;simp
 | k+1,b=>by
  unfold maskN;rw[Nat.testBit_or,Bool.or_eq_true,mZ P k b];by_cases h:P k
  ·rw[if_pos h,Nat.testBit_two_pow,decide_eq_true_eq];constructor
   ·rintro(⟨h1,h2⟩ | rfl)
    ·exact⟨by omega,h2⟩
    ·exact⟨by omega,h⟩
   ·rintro⟨h1,h2⟩;by_cases e:k=b
    ·exact .inr e
    ·exact .inl ⟨by omega,h2⟩
  ·rw[if_neg h,Nat.zero_testBit];constructor
   ·rintro(⟨h1,h2⟩ | h1)
    ·exact⟨by omega,h2⟩
    ·cases h1
   ·rintro⟨h1,h2⟩;by_cases e:k=b
    ·subst e;exact absurd h2 h
    ·exact .inl ⟨by omega,h2⟩
theorem xk {p:Int}{d:Nat}{s:Int} : aY G (p,(d:Int))=some s↔(-1<=p/\p<(G.prods.length:Int))/\(ax G p)[d]?=some s:=by
 unfold aO.aY;constructor
 ·intro h;split at h
  ·rename_i ht;obtain⟨h1,h2,_,_⟩:=aO.bW.1 ht;exact⟨⟨h1,h2⟩,by simpa using h⟩
  ·cases h
 ·rintro⟨⟨h1,h2⟩,h⟩;have hl:=(List.getElem?_eq_some_iff.1 h).1;rw[if_pos (aO.bW.2 ⟨h1,h2,by show(0:Int)<=(d:Int);omega,by show(d:Int)<=((ax G p).length:Int);omega⟩)];simpa using h
theorem jV {i:Nat}{p:Int}{d:Nat}(h:(mG G n D).C i p d):-1<=p/\p<(G.prods.length:Int)/\d<=(ax G p).length:=by
 obtain⟨h1,h2,_,h4⟩:=aO.bW.1 (iV.1 h.2).there;exact⟨h1,h2,by have h4:(d:Int)<=((ax G p).length:Int):=h4;omega⟩
theorem pR {i:Nat}{p:Int}{d:Nat}{s:Int}(h:(mG G n D).C i p d)(hs:((mG G n D).rt p)[d]?=some s):aY G (p,(d:Int))=some s:=xk.2 ⟨⟨(jV h).1,(jV h).2.1⟩,hs⟩
theorem EZ {i:Nat}{x:It}(h:x∈(bi G n (E0 G) (F0 G)).C i):∃ d:Nat,x=(x.1,(d:Int)):=by
 have:=(aO.bW.1 (iV.1 h).there).2.2.1;exact⟨x.2.toNat,Prod.ext rfl (by show x.2=((x.2.toNat:Nat):Int);omega)⟩
end
end wQ
open aO (It ag aN aP ax aY bg cO rP bu aX)
namespace wQ
section
variable {G:GD}{n:Nat}{D:Nat->Nat->List It}{A:Pl->Nat}
abbrev LA (G:GD)(n:Nat)(A:Pl->Nat):Prop:=dm (dJ (bi G n (E0 G) (F0 G))) (places (bi G n (E0 G) (F0 G)) n) (0,(-1,0)) (aZ 63) A
theorem Lr (hV:aB G=true):∀ y∈F0 G,y<top:=(fC hV).2.2
theorem lk_of (hV:aB G=true)(hO:aN G n)(hL:LA G n A){i:Nat}{p:Int}{d t:Nat}(hc:(mG G n D).C i p d)(h:(A (i,(p,(d:Int)))).testBit t=true):LR.Lk (mG G n D) i p d t:=by
 have hm:=hL.least (fun q=>maskN (fun b=>LR.Lk (mG G n D) q.1 q.2.1 q.2.2.toNat (b:Int)) 64) (fun y hy e he=>?_) (eG.2 fun b hb=>?_) (i,(p,(d:Int))) (mem_places.2 hc)
 ·have:=((mZ _ _ _).1 (eG.1 hm t h)).2;simpa using this
 ·obtain⟨j,yp,yd⟩:=y;obtain⟨p1,p2⟩:=mem_places.1 hy;obtain⟨e',hd⟩:=EZ p2;obtain rfl:yd=(e':Int):=by injection hd
  have hcj:(mG G n D).C j yp e':=⟨p1,p2⟩;have ht:=jV hcj;cases hb:aY G (yp,(e':Int))with
  | none=>rw[jo (show aY (bi G n (E0 G) (F0 G)).G (j,(yp,(e':Int))).2=none from hb)]at he;cases he
  | some s =>
   rw[fE (show aY (bi G n (E0 G) (F0 G)).G (j,(yp,(e':Int))).2=some s from hb)]at he;have hs:=(xk.1 hb).2;rcases List.mem_cons.1 he with e1 | e1
   ·subst e1;refine eG.2 fun b hbit=>(mZ _ _ _).2 ?_;have h2:=(mZ _ _ _).1 hbit;refine⟨h2.1,?_⟩;have h3:LR.Lk (mG G n D) j yp e' (b:Int):=by simpa using h2.2
    have h4:=LR.Lk.goto j yp e' s (b:Int) h3 hcj hs;show LR.Lk (mG G n D) ((mG G n D).to j s) yp ((e':Int)+1).toNat (b:Int);rw[show((e':Int)+1).toNat=e'+1 by omega];exact h4
   ·by_cases hs0:s<0
    ·rw[if_pos hs0]at e1;obtain⟨q,h3,h4,rfl⟩:=iK.1 e1;have hsq:s=(mG G n D).srt (q:Int):=by
      show s=-1-bg G ((q:Int)).toNat;have h4:bg G q=-1-s:=h4;rw[Int.toNat_natCast,h4];omega
     have hq:(mG G n D).isP (q:Int):=⟨by omega,by have h3:q<G.prods.length:=h3;omega⟩;have hrest:dV G (yp,(e':Int))=((mG G n D).rt yp).drop (e'+1):=by unfold aJ.cZ.dV;rfl
     have hro:nU G.terms.length G.sorts.length (((mG G n D).rt yp).drop (e'+1)):=row_drop (Gg hV yp ht.1 ht.2.1) _;refine eG.2 fun b hbit=>(mZ _ _ _).2 ?_;have hbit:(yw (bi G n (E0 G) (F0 G)) (yp,(e':Int)) ||| (if xX (bi G n (E0 G) (F0 G)) (yp,(e':Int))=true then maskN (fun b=>LR.Lk (mG G n D) j yp ((e':Int)).toNat (b:Int)) 64 else 0)).testBit b=true:=hbit;rw[Nat.testBit_or,Bool.or_eq_true]at hbit;rcases hbit with h5 | h5
     ·unfold aJ.cZ.yw at h5;have h5:(ofRow G.terms.length (E0 G) (F0 G) (dV G (yp,(e':Int))) 0).testBit b=true:=h5;rw[hrest]at h5;have h6:=Lh (n:=n) (D:=D) hV hro h5;have h7:=(D9 hV h6 hro).2;have h60:=(aJ.gm hV).1;exact⟨by omega,.first j yp e' (q:Int) b hcj (by rw[<-hsq];exact hs) hq h6⟩
     ·split at h5
      ·rename_i hn;unfold aJ.cZ.xX at hn;have hn:pV (E0 G) (F0 G).length (dV G (yp,(e':Int)))=true:=hn;rw[hrest]at hn;have h2:=(mZ _ _ _).1 h5;exact⟨h2.1,.nul j yp e' (q:Int) b (by simpa using h2.2) hcj (by rw[<-hsq];exact hs) hq ((Dn hV _ hro).1 hn)⟩
      ·simp at h5
    ·rw[if_neg hs0]at e1;cases e1
 ·rw[dN]at hb;have:=of_decide_eq_true hb;obtain rfl:b=63:=by omega
  exact(mZ _ _ _).2 ⟨by omega,.start⟩
theorem of_lk (hV:aB G=true)(hO:aN G n)(hL:LA G n A){i:Nat}{p:Int}{d:Nat}{t:Int}(h:LR.Lk (mG G n D) i p d t):(A (i,(p,(d:Int)))).testBit t.toNat=true/\(t=63\/0<=t/\t<(G.terms.length:Int)):=by
 induction h with
 | start =>
  refine⟨eG.1 hL.start 63 (by decide),.inl rfl⟩
 | goto i p d s t h hc hs ih =>
  have h1:=aJ.cZ.dm.lL hL (s:=s) hc.1 hc.2 (pR hc hs);refine⟨?_,ih.2⟩;have h2:=eG.1 h1 _ ih.1;exact h2
 | first i p d q t hc hs hq hf =>
  obtain⟨r,hr,hq'⟩:=jB hq;have ht:=jV hc;have h0:=row_of hV hr;have hro:nU G.terms.length G.sorts.length (((mG G n D).rt p).drop (d+1)):=row_drop (Gg hV p ht.1 ht.2.1) _;have hb:=D9 hV hf hro;have hso:bg G q.toNat=-1-(mG G n D).srt q:=by show _=-1-(-1-bg G q.toNat);omega
  have hneg:(mG G n D).srt q<0:=by rw[<-hq',jO hr];omega
  have h1:=aJ.cZ.dm.more hL hc.1 hc.2 (pR hc hs) hneg (show q.toNat<G.prods.length from(List.getElem?_eq_some_iff.1 hr).1) hso;rw[hq',aJ.cZ.iO]at h1;refine⟨eG.1 h1 _ ?_,.inr hb.2⟩;rw[Nat.testBit_or,Bool.or_eq_true];exact .inl hb.1
 | nul i p d q t h hc hs hq hn ih =>
  obtain⟨r,hr,hq'⟩:=jB hq;have ht:=jV hc;have h0:=row_of hV hr;have hro:nU G.terms.length G.sorts.length (((mG G n D).rt p).drop (d+1)):=row_drop (Gg hV p ht.1 ht.2.1) _;have hso:bg G q.toNat=-1-(mG G n D).srt q:=by show _=-1-(-1-bg G q.toNat);omega
  have hneg:(mG G n D).srt q<0:=by rw[<-hq',jO hr];omega
  have h1:=aJ.cZ.dm.more hL hc.1 hc.2 (pR hc hs) hneg (show q.toNat<G.prods.length from(List.getElem?_eq_some_iff.1 hr).1) hso;rw[hq',aJ.cZ.iO]at h1;refine⟨eG.1 h1 _ ?_,ih.2⟩;rw[Nat.testBit_or,Bool.or_eq_true];right;have hn2:pV (E0 G) (F0 G).length (((mG G n D).rt p).drop (d+1))=true:=(Dn hV _ hro).2 hn;have:pV (bi G n (E0 G) (F0 G)).E (bi G n (E0 G) (F0 G)).F.length (dV (bi G n (E0 G) (F0 G)).G (p,(d:Int)))=true:=hn2;rw[if_pos this];exact ih.1
theorem wX (a:Nat){z:Int}(h0:0<=z)(h1:z<64):gu a z=true↔a.testBit z.toNat=true:=by
 unfold aJ.gu;rw[decide_eq_true_iff];constructor
 ·intro h;refine Classical.byContradiction fun hn=>h ?_;refine Nat.eq_of_testBit_eq fun i=>?_;rw[Nat.testBit_and,dN,Nat.zero_testBit];by_cases e:(i:Int)=z
  ·have:z.toNat=i:=by omega
   rw[this]at hn;rw[Bool.eq_false_iff.2 hn];rfl
  ·have:¬ (0<=z/\z<64/\(i:Int)=z):=fun h=>e h.2.2;rw[dA this,Bool.and_false]
 ·intro h hz;have:=congrArg (fun m=>m.testBit z.toNat) hz;rw[Nat.testBit_and,dN,h,Nat.zero_testBit,Bool.true_and]at this;have h2:0<=z/\z<64/\((z.toNat:Nat):Int)=z:=⟨h0,h1,by omega⟩;rw[eP h2]at this;cases this
theorem sH (hO:aN G n){i:Nat}(hi:i<n){p:Int}{u:Nat} : (p,u)∈gV G ((bi G n (E0 G) (F0 G)).C i) (((bi G n (E0 G) (F0 G)).C i).map fun x=>A (i,x))↔((mG G n D).C i p (ax G p).length/\A (i,(p,((ax G p).length:Int)))=u/\u≠0):=by
 have hcl:aP G ((bi G n (E0 G) (F0 G)).C i)=(bi G n (E0 G) (F0 G)).C i:=aO.uB G _;have hus:∀ (l:List It) (x:It) (j:Nat),l[j]?=some x->(l.map fun x=>A (i,x)).getD j 0=A (i,x):=fun l x j h=>by
  rw[dL,List.getElem?_map,h];rfl
 unfold gV;rw[List.mem_map];constructor
 ·rintro⟨q,hq,e⟩;have hm:=yz hq;unfold gZ at e;injection e with e1 e2;subst e1;have hx:=ry hm.1;rw[hus _ _ _ hx]at e2;refine⟨⟨hi,hm.1⟩,e2,?_⟩;unfold doneN at hq;obtain⟨j,hj,e3⟩:=List.mem_map.1 hq;have hd:=of_decide_eq_true (List.mem_filter.1 hj).2;have hjl:j<((bi G n (E0 G) (F0 G)).C i).length:=by simpa using (List.mem_filter.1 hj).1
  have hxj:((bi G n (E0 G) (F0 G)).C i).getD j (0,0)=(q,((ax G q).length:Int)):=Prod.ext e3 (by have:=hd.2.2.2;rw[e3]at this;exact this);have hgj:((bi G n (E0 G) (F0 G)).C i)[j]?=some (q,((ax G q).length:Int)):=by
   rw[dH hjl,<-hxj,dL,dH hjl];rfl
  have h5:=hd.2.1;rw[hus _ _ _ hgj,e2]at h5;exact h5
 ·rintro⟨⟨_,hm⟩,hA,hu⟩;have hx:=ry hm;have hlt:=(List.getElem?_eq_some_iff.1 hx).1;refine⟨p,?_,by unfold gZ;rw[hus _ _ _ hx,hA]⟩;unfold doneN;refine List.mem_map.2 ⟨GG (p,((ax G p).length:Int)) ((bi G n (E0 G) (F0 G)).C i),List.mem_filter.2 ⟨List.mem_range.2 hlt,?_⟩,by rw[aO.getD_get hx]⟩;unfold qK;rw[aO.getD_get hx,hus _ _ _ hx,hcl,hA];exact eP ⟨by rw[List.length_map];exact hlt,hu,hm,rfl⟩
noncomputable abbrev dS (G:GD) (n:Nat) (A:Pl->Nat):Nat->Nat->List It:=dE G (ag G n).nx (bi G n (E0 G) (F0 G)).C A
theorem l7 (hV:aB G=true)(hO:aN G n){i k:Nat}(hi:i<n)(hk:k<=G.terms.length){x:It} : x∈dS G n A i k ↔
  ((k<G.terms.length/\0<=ng G (ag G n).nx (i:Int) (k:Int)/\x=(1,ng G (ag G n).nx (i:Int) (k:Int))) \/
   ∃ p,(mG G n D).C i p (ax G p).length/\(A (i,(p,((ax G p).length:Int)))).testBit (if k=G.terms.length then 63 else k)=true/\x=(if p<0 then(3,0)else(2,p))):=by
 have h60:=(aJ.gm hV).1;unfold dS dE jU;rw[List.mem_append];refine or_congr ?_ ?_
 ·unfold sU;by_cases hkT:k=G.terms.length
  ·rw[if_pos hkT];constructor
   ·intro h;cases h
   ·rintro⟨h,_⟩;omega
  ·rw[if_neg hkT];by_cases hg:0<=ng G (ag G n).nx (i:Int) (k:Int)
   ·rw[if_pos hg,List.mem_singleton];exact⟨fun h=>⟨by omega,hg,h⟩,fun h=>h.2.2⟩
   ·rw[if_neg hg];constructor
    ·intro h;cases h
    ·rintro⟨_,h,_⟩;exact absurd h hg
 ·rw[List.mem_flatMap];have hz:(if k=G.terms.length then(63:Int)else(k:Int)).toNat=(if k=G.terms.length then 63 else k):=by
   split
   ·rfl
   ·omega
  have hz0:0<=(if k=G.terms.length then(63:Int)else(k:Int))/\(if k=G.terms.length then(63:Int)else(k:Int))<64:=by
   split<;>omega
  constructor
  ·rintro⟨⟨p,u⟩,hp,hx⟩;obtain⟨h1,h2,h3⟩:=(sH (D:=D) hO hi).1 hp;unfold one1 at hx;by_cases hh:gu u (if k=G.terms.length then(63:Int)else(k:Int))=true
   ·have hx:x∈(if gu u (if k=G.terms.length then(63:Int)else(k:Int))=true then(if p<0 then [((3:Int),(0:Int))]else [(2,p)])else []):=hx;rw[if_pos hh]at hx;have hb:=(wX u hz0.1 hz0.2).1 hh;rw[hz]at hb;refine⟨p,h1,by rw[h2];exact hb,?_⟩;by_cases hp0:p<0
    ·rw[if_pos hp0]at hx ⊢;exact List.mem_singleton.1 hx
    ·rw[if_neg hp0]at hx ⊢;exact List.mem_singleton.1 hx
   ·have hx:x∈(if gu u (if k=G.terms.length then(63:Int)else(k:Int))=true then(if p<0 then [((3:Int),(0:Int))]else [(2,p)])else []):=hx;rw[if_neg hh]at hx;cases hx
  ·rintro⟨p,h1,h2,rfl⟩;refine⟨(p,A (i,(p,((ax G p).length:Int)))),(sH (D:=D) hO hi).2 ⟨h1,rfl,fun h0=>?_⟩,?_⟩
   ·rw[h0]at h2;simp at h2
   ·unfold one1;have hh:gu (A (i,(p,((ax G p).length:Int)))) (if k=G.terms.length then(63:Int)else(k:Int))=true:=(wX _ hz0.1 hz0.2).2 (by rw[hz];exact h2);rw[if_pos hh];by_cases hp0:p<0
    ·rw[if_pos hp0,if_pos hp0];exact List.mem_singleton.2 rfl
    ·rw[if_neg hp0,if_neg hp0];exact List.mem_singleton.2 rfl
def jE (T:Nat)(t:Int):Nat:=if t=63 then T else t.toNat
theorem BM {T i:Nat}{t:Int}(ht:t=63\/0<=t/\t<(T:Int))(hl:(D i (jE T t)).length<=1){x:It}(hx:x∈D i (jE T t)):BN D T i t=(if x.1=1 then .shift x.2.toNat else if x.1=2 then .red x.2 else .acc):=by
 unfold BN;rw[if_pos ht];have:D i (if t=63 then T else t.toNat)=D i (jE T t):=rfl;rw[this];cases hd:D i (jE T t)with
 | nil=>rw[hd]at hx;cases hx
 | cons y l =>
  rw[hd]at hx hl;have:l=[]:=List.eq_nil_of_length_eq_zero (by rw[List.length_cons]at hl;omega);subst this;obtain rfl:=List.mem_singleton.1 hx;rfl
theorem yJ {T i:Nat}{t:Int}{a:LR.Do}(h:BN D T i t=a)(ha:a≠.wrong):(t=63\/0<=t/\t<(T:Int))/\∃ x∈D i (jE T t),a=(if x.1=1 then .shift x.2.toNat else if x.1=2 then .red x.2 else .acc):=by
 unfold BN at h;split at h
 ·rename_i ht;refine⟨ht,?_⟩;have:D i (if t=63 then T else t.toNat)=D i (jE T t):=rfl;rw[this]at h;cases hd:D i (jE T t)with
  | nil=>rw[hd]at h;exact absurd h.symm ha
  | cons y l=>rw[hd]at h;exact⟨y,List.mem_cons_self,h.symm⟩
 ·exact absurd h.symm ha
end
end wQ
end Go.Proofs.YticmnfmijdgmbaaGreatDoor
