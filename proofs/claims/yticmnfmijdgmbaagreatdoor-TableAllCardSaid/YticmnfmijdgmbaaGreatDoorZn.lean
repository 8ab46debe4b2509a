import Derived.Test.YticmnfmijdgmbaaGreatDoorQKq
set_option linter.all false
namespace Go.Proofs.YticmnfmijdgmbaaGreatDoor
open aO (It ag aN aP ax aY bg cO rP bu aX)
open aJ (u64 aZ top E0 F0 fM gu nU)
open aJ.cZ (Pl dm dJ places bi zY iV jS)
namespace wQ
section
variable {G:GD}{n:Nat}{A:Pl->Nat}
theorem zh {k:Nat}{s:Int}(h:(cO G)[k]?=some s):ig G s=some k:=by
 have hl:=(List.getElem?_eq_some_iff.1 h).1;rw[aO.kD]at hl;unfold aO.cO at h;unfold ig;by_cases hk:k<G.terms.length
 ·rw[List.getElem?_append_left (by simpa using hk),List.getElem?_map,List.getElem?_range hk]at h;obtain rfl:(k:Int)=s:=Option.some.inj h;rw[if_pos (by omega),if_pos (by omega),Int.toNat_natCast]
 ·rw[List.getElem?_append_right (by simpa using hk),List.getElem?_map,List.getElem?_range (by simp;omega)]at h;obtain rfl:-1-((k-((List.range G.terms.length).map fun t:Nat=>(t:Int)).length:Nat):Int)=s:=Option.some.inj h;rw[List.length_map,List.length_range];rw[if_neg (by omega),if_pos (by omega)];congr 1;omega
theorem yu (hO:aN G n){i:Nat}{s:Int}(h:0<=ng G (ag G n).nx (i:Int) s):i<n/\∃ q:Nat,ng G (ag G n).nx (i:Int) s=(q:Int)/\0<q/\q<n/\(ag G n).ker[q]?=some (aX G ((bi G n (E0 G) (F0 G)).C i) s):=by
 obtain⟨hI,ha,hl⟩:=hO.inv;have hlen:(ag G n).nx.length=n:=by rw[hI.len,ha]
 have hi:i<n:=by
  refine Classical.byContradiction fun hn=>?_;rw[wY (by omega)]at h;omega
 refine⟨hi,?_⟩;cases hp:ig G s with
 | none=>rw[qF hp]at h;omega
 | some k =>
  have hs:=Ie hp;obtain⟨R,v,h1,h2,_⟩:=hI.num i (by omega) k s hs;have hg:=qG hp h1 h2;rcases hI.gY (by omega) hs h1 h2 with⟨e,_⟩ | ⟨q,e1,e2,e3,e4⟩
  ·omega
  ·exact⟨q,by rw[hg,e1],e2,by omega,e4⟩
theorem vI (hO:aN G n)(hV:aB G=true){i k:Nat}(hi:n<=i):dS G n A i k=[]:=by
 obtain⟨hI,ha,hl⟩:=hO.inv;have hlen:(ag G n).nx.length=n:=by rw[hI.len,ha]
 have hC:(bi G n (E0 G) (F0 G)).C i=[]:=by
  show aP G ((ag G n).ker.getD i [])=[];rw[dL,List.getElem?_eq_none (by omega)];exact aO.yD G
 unfold dS dE jU;rw[hC];have h1:sU G (ag G n).nx (i:Int) k=[]:=by
  unfold sU;split
  ·rfl
  ·rw[wY (by omega),if_neg (by decide)]
 rw[h1];rfl
theorem xg (hO:aN G n){D:Nat->Nat->List It}{i:Nat}{x:It}(hi:i<n)(h:rP G ((ag G n).ker.getD i []) x):(x∈(ag G n).ker.getD i []/\(1<=x.2\/x=(-1,0)))\/(x.2=0/\LR.Beg (mG G n D) i x.1):=by
 obtain⟨hI,ha,hl⟩:=hO.inv;have hker:∀ x∈(ag G n).ker.getD i [],1<=x.2\/x=(-1,0):=fun x hx=>by
  rcases Nat.eq_zero_or_pos i with e | e
  ·subst e;rw[aO.getD_get hI.first]at hx;exact .inr (List.mem_singleton.1 hx)
  ·obtain⟨j,k,R,a1,a2,a3,a4,a5⟩:=hI.come i e (by omega);obtain⟨s,hs⟩:∃ s,(cO G)[k]?=some s:=⟨_,dH a5⟩;rcases hI.gY a1 hs a3 a4 with⟨e1,_⟩ | ⟨q,e1,_,_,e4⟩
   ·omega
   ·obtain rfl:i=q:=by omega
    rw[aO.getD_get e4]at hx;exact .inl (aO.step_dot hx).1
 induction h with
 | base x hx ht=>exact .inl ⟨hx,hker x hx⟩
 | more x s p hx hb hs hp he ih =>
  right;refine⟨rfl,?_⟩;have hxC:x∈(bi G n (E0 G) (F0 G)).C i:=iV.2 hx;obtain⟨d,hd⟩:=EZ hxC;have hp':(mG G n D).isP (p:Int):=⟨by omega,by omega⟩;have hsr:s=(mG G n D).srt (p:Int):=by
   show s=-1-bg G ((p:Int)).toNat;rw[Int.toNat_natCast,he];omega
  rw[hd]at hb;have hs2:=(xk.1 hb).2;rw[hsr]at hs2;rcases ih with⟨_,h1⟩ | ⟨h1,h2⟩
  ·refine .mk x.1 d (p:Int) ⟨hi,by rw[<-hd];exact hxC⟩ ?_ hs2 hp';rcases h1 with h1 | h1
   ·left;have:x.2=(d:Int):=by rw[hd]
    omega
   ·right;rw[h1]
  ·have hd0:d=0:=by
    have:x.2=(d:Int):=by rw[hd]
    omega
   subst hd0;exact .more x.1 (p:Int) h2 hs2 hp'
theorem Gq (hO:aN G n){D:Nat->Nat->List It} : ∀ i:Nat,i<n->∃ σ γ,LR.Path (mG G n D) (i::σ) γ:=by
 obtain⟨hI,ha,hl⟩:=hO.inv;intro i;induction i using Nat.strongRecOn with
 | _ i ih =>
  intro hi;rcases Nat.eq_zero_or_pos i with e | e
  ·subst e;exact⟨[],[],.base⟩
  ·obtain⟨j,k,R,a1,a2,a3,a4,a5⟩:=hI.come i e (by omega);obtain⟨s,hs⟩:∃ s,(cO G)[k]?=some s:=⟨_,dH a5⟩;obtain⟨σ,γ,hp⟩:=ih j a2 (by omega);have hg:ng G (ag G n).nx (j:Int) s=(i:Int):=qG (zh hs) a3 a4;have ht:(mG G n D).to j s=i:=by show(ng G (ag G n).nx (j:Int) s).toNat=i;rw[hg];rfl
   have:=LR.Path.more (M:=mG G n D) j σ γ s hp (by show 0<=ng G (ag G n).nx (j:Int) s;rw[hg];omega);rw[ht]at this;exact⟨_,_,this⟩
theorem EX (hV:aB G=true)(hO:aN G n)(hL:LA G n A)(hno:∀ i k,i<n->k<=G.terms.length->(dS G n A i k).length<=1):LR.Ok (mG G n (dS G n A)):=by
 have hS:=zi hV;have h60:=(aJ.gm hV).1;have hcx:=zY (n:=n) (E:=E0 G) hO hS (Lr hV);have hback:∀ i s p d,0<=(mG G n (dS G n A)).go i s->(mG G n (dS G n A)).C ((mG G n (dS G n A)).to i s) p (d+1)->((mG G n (dS G n A)).rt p)[d]?=some s/\(mG G n (dS G n A)).C i p d:=fun i s p d hg hc=>by
  obtain⟨hi,q,e1,e2,e3,e4⟩:=yu hO hg;have ht:(mG G n (dS G n A)).to i s=q:=by show(ng G (ag G n).nx (i:Int) s).toNat=q;rw[e1];rfl
  rw[ht]at hc;rcases xg (D:=dS G n A) hO e3 (iV.1 hc.2)with⟨h1,_⟩ | ⟨h1,_⟩
  ·rw[aO.getD_get e4]at h1;obtain⟨x,hx,hb,he⟩:=aO.iU.1 h1;injection he with he1 he2;have hxx:x=(p,(d:Int)):=Prod.ext he1.symm (by show x.2=(d:Int);have:((d+1:Nat):Int)=x.2+1:=he2;omega);subst hxx;exact⟨(xk.1 hb).2,hi,hx⟩
  ·have h1:((d+1:Nat):Int)=0:=h1;omega
 have hlkc:∀ i p d t,LR.Lk (mG G n (dS G n A)) i p d t->(mG G n (dS G n A)).C i p d:=fun i p d t h=>by
  induction h with
  | start=>exact⟨aJ.cZ.uk hO,aJ.cZ.jC hO⟩
  | goto i p d s t _ hc hs _ =>
   obtain⟨h1,h2⟩:=hcx.lL i _ s hc.1 hc.2 (pR hc hs);exact⟨h1,h2⟩
  | first i p d q t hc hs hq _ =>
   obtain⟨r,hr,hq'⟩:=jB hq;have hneg:(mG G n (dS G n A)).srt q<0:=by rw[<-hq',jO hr];have:=(row_of hV hr).1;omega
   have:=hcx.more i _ _ q.toNat hc.1 hc.2 (pR hc hs) hneg (List.getElem?_eq_some_iff.1 hr).1 (by show bg G q.toNat=-1-(-1-bg G q.toNat);omega);rw[hq']at this;exact⟨hc.1,this⟩
  | nul i p d q t _ hc hs hq _ _ =>
   obtain⟨r,hr,hq'⟩:=jB hq;have hneg:(mG G n (dS G n A)).srt q<0:=by rw[<-hq',jO hr];have:=(row_of hV hr).1;omega
   have:=hcx.more i _ _ q.toNat hc.1 hc.2 (pR hc hs) hneg (List.getElem?_eq_some_iff.1 hr).1 (by show bg G q.toNat=-1-(-1-bg G q.toNat);omega);rw[hq']at this;exact⟨hc.1,this⟩
 have hcol:∀ t:Int,(t=63\/0<=t/\t<(G.terms.length:Int))->jE G.terms.length t<=G.terms.length/\(if jE G.terms.length t=G.terms.length then 63 else jE G.terms.length t)=t.toNat:=fun t ht=>by
  unfold jE;by_cases h:t=63
  ·rw[if_pos h];exact⟨bJ _,by rw[if_pos rfl,h];rfl⟩
  ·rw[if_neg h];have:=ht.resolve_left h;exact⟨by omega,by rw[if_neg (by omega)]⟩
 have hred:∀ i p t,LR.Lk (mG G n (dS G n A)) i p (ax G p).length t->(if p<0 then((3:Int),(0:Int))else(2,p))∈dS G n A i (jE G.terms.length t)/\i<n/\(t=63\/0<=t/\t<(G.terms.length:Int)):=fun i p t h=>by
  obtain⟨h1,h2⟩:=of_lk hV hO hL h;have hc:=hlkc _ _ _ _ h;obtain⟨h3,h4⟩:=hcol t h2;refine⟨(l7 (D:=dS G n A) hV hO hc.1 h3).2 (.inr ⟨p,hc,?_,rfl⟩),hc.1,h2⟩;rw[h4];exact h1
 exact {
   neg:=fun q hq=>by
     obtain⟨r,hr,hq'⟩:=jB hq;exact⟨by rw[<-hq',jO hr];have:=(row_of hV hr).1;omega,hq.1⟩
   start:=⟨aJ.cZ.uk hO,aJ.cZ.jC hO⟩
   rt1:=rfl
   lL:=fun i p d s hc hs=>by
     obtain⟨q,e1,_⟩:=jS (E:=E0 G) (F:=F0 G) hO hS hc.1 hc.2 (pR hc hs);obtain⟨h1,h2⟩:=hcx.lL i _ s hc.1 hc.2 (pR hc hs);exact⟨by show 0<=ng G (ag G n).nx (i:Int) s;rw[e1];omega,h1,h2⟩
   more:=fun i p d q hc hs hq=>by
     obtain⟨r,hr,hq'⟩:=jB hq;have hneg:(mG G n (dS G n A)).srt q<0:=by rw[<-hq',jO hr];have:=(row_of hV hr).1;omega
     have:=hcx.more i _ _ q.toNat hc.1 hc.2 (pR hc hs) hneg (List.getElem?_eq_some_iff.1 hr).1 (by show bg G q.toNat=-1-(-1-bg G q.toNat);omega);rw[hq']at this;exact⟨hc.1,this⟩
   back:=hback
   want:=fun i p hc hp=>by
     rcases xg (D:=dS G n A) hO hc.1 (iV.1 hc.2)with⟨_,h1⟩ | ⟨_,h1⟩
     . exfalso
       rcases h1 with h1 | h1
       . have h1:(1:Int)<=((0:Nat):Int):=h1
         omega
       injection h1 with h1 _;have:=hp.1;omega
     have hgo:∀ q d s,(mG G n (dS G n A)).C i q d->((mG G n (dS G n A)).rt q)[d]?=some s->0<=(mG G n (dS G n A)).go i s:=fun q d s hc hs=>by
       obtain⟨r,e1,_⟩:=jS (E:=E0 G) (F:=F0 G) hO hS hc.1 hc.2 (pR hc hs);show 0<=ng G (ag G n).nx (i:Int) s;rw[e1];omega
     have hbeg:∀ q,LR.Beg (mG G n (dS G n A)) i q->(mG G n (dS G n A)).C i q 0:=fun q hq=>by
       have hmr:∀ p d q,(mG G n (dS G n A)).C i p d->((mG G n (dS G n A)).rt p)[d]?=some ((mG G n (dS G n A)).srt q)->(mG G n (dS G n A)).isP q->(mG G n (dS G n A)).C i q 0:=fun p d q hc hs hq=>by
         obtain⟨r,hr,hq'⟩:=jB hq;have hneg:(mG G n (dS G n A)).srt q<0:=by rw[<-hq',jO hr];have:=(row_of hV hr).1;omega
         have:=hcx.more i _ _ q.toNat hc.1 hc.2 (pR hc hs) hneg (List.getElem?_eq_some_iff.1 hr).1 (by show bg G q.toNat=-1-(-1-bg G q.toNat);omega);rw[hq']at this;exact⟨hc.1,this⟩
       induction hq with
       | mk p d q hc _ hs hq=>exact hmr p d q hc hs hq
       | more p q _ hs hq ih=>exact hmr p 0 q ih hs hq
     cases h1 with
     | mk q d _ hc _ hs _=>exact hgo q d _ hc hs
     | more q _ hq hs _=>exact hgo q 0 _ (hbeg q hq) hs
   fin:=⟨G.sorts.length,fun q hq=>by
     obtain⟨r,hr,hq'⟩:=jB hq;rw[<-hq',jO hr];have:=(row_of hV hr).2.1;omega⟩
   whole:=fun i hc=>aJ.cZ.qj hO hc.1 hc.2
   begun:=fun i q hc hq=>by
     rcases xg (D:=dS G n A) hO hc.1 (iV.1 hc.2)with⟨_,h1⟩ | ⟨_,h1⟩
     . exfalso
       rcases h1 with h1 | h1
       . have h1:(1:Int)<=((0:Nat):Int):=h1
         omega
       injection h1 with h1 _;have:=hq.1;omega
     exact h1
   zero:=fun p d hc=>by
     rcases xg (D:=dS G n A) hO hc.1 (iV.1 hc.2)with⟨h1,_⟩ | ⟨h1,_⟩
     . rw[aO.getD_get hO.inv.1.first]at h1
       have h1:=List.mem_singleton.1 h1;injection h1 with _ h1;omega
     have h1:((d:Nat):Int)=0:=h1;omega
   pos:=fun i s hg=>by
     obtain⟨hi,q,e1,e2,e3,e4⟩:=yu hO hg;show(ng G (ag G n).nx (i:Int) s).toNat≠0;rw[e1];omega
   reach:=fun i p d hc=>Gq hO i hc.1
   isp:=fun i p d hc=>by
     have:=jV hc;by_cases h:p=-1
     . exact .inl h
     exact .inr ⟨by omega,this.2.1⟩
   a_shift:=fun i t p d hc hs h0=>by
     obtain⟨q,e1,_⟩:=jS (E:=E0 G) (F:=F0 G) hO hS hc.1 hc.2 (pR hc hs);have hro:=Gg hV p (jV hc).1 (jV hc).2.1 t (List.mem_of_getElem? hs);have ht:0<=t/\t<(G.terms.length:Int):=by omega
     obtain⟨h3,h4⟩:=hcol t (.inr ht);have hcc:jE G.terms.length t=t.toNat:=by unfold jE;rw[if_neg (by omega)]
     have hm:((1:Int),ng G (ag G n).nx (i:Int) t)∈dS G n A i (jE G.terms.length t):=by
       refine(l7 (D:=dS G n A) hV hO hc.1 h3).2 (.inl ⟨by omega,?_,?_⟩)
       . rw[hcc,show((t.toNat:Nat):Int)=t by omega,e1];omega
       rw[hcc,show((t.toNat:Nat):Int)=t by omega]
     have:=BM (D:=dS G n A) (.inr ht) (hno i _ hc.1 h3) hm;exact this
   a_red:=fun i p t h hp=>by
     obtain⟨h1,hi,h2⟩:=hred i p t h;obtain⟨h3,_⟩:=hcol t h2;have e:(if p<0 then((3:Int),(0:Int))else(2,p))=(2,p):=if_neg (by have:=hp.1;omega);rw[e]at h1;exact BM (D:=dS G n A) h2 (hno i _ hi h3) h1
   a_acc:=fun i t h=>by
     obtain⟨h1,hi,h2⟩:=hred i (-1) t h;obtain⟨h3,_⟩:=hcol t h2;have:=BM (D:=dS G n A) h2 (hno i _ hi h3) h1;exact this
   r_shift:=fun i t j h=>by
     obtain⟨ht,x,hx,e⟩:=yJ (D:=dS G n A) h (by simp);obtain⟨h3,h4⟩:=hcol t ht;have hi:i<n:=by
       refine Classical.byContradiction fun hn=>?_;rw[vI hO hV (by omega)]at hx;cases hx
     rcases(l7 (D:=dS G n A) hV hO hi h3).1 hx with⟨h5,h6,rfl⟩ | ⟨p,_,_,rfl⟩
     . have ht:0<=t/\t<(G.terms.length:Int):=ht.resolve_left fun e=>by subst e;unfold jE at h5;rw[if_pos rfl]at h5;omega
       have hcc:jE G.terms.length t=t.toNat:=by unfold jE;rw[if_neg (by omega)]
       rw[hcc,show((t.toNat:Nat):Int)=t by omega]at h6 e;injection e with e;exact⟨ht.1,by omega,h6,e⟩
     split at e<;>simp at e
   r_red:=fun i t p h=>by
     obtain⟨ht,x,hx,e⟩:=yJ (D:=dS G n A) h (by simp);obtain⟨h3,h4⟩:=hcol t ht;have hi:i<n:=by
       refine Classical.byContradiction fun hn=>?_;rw[vI hO hV (by omega)]at hx;cases hx
     rcases(l7 (D:=dS G n A) hV hO hi h3).1 hx with⟨h5,h6,rfl⟩ | ⟨q,h5,h6,rfl⟩
     . simp at e
     by_cases hq:q<0
     . rw[if_pos hq]at e;simp at e
     rw[if_neg hq]at e;have e:LR.Do.red p=LR.Do.red q:=e;injection e with e;subst e;rw[h4]at h6;have h7:=lk_of hV hO hL h5 h6;have ht0:0<=t:=by omega
     rw[show((t.toNat:Nat):Int)=t by omega]at h7;exact⟨⟨by omega,(jV h5).2.1⟩,h7⟩
   r_acc:=fun i t h=>by
     obtain⟨ht,x,hx,e⟩:=yJ (D:=dS G n A) h (by simp);obtain⟨h3,h4⟩:=hcol t ht;have hi:i<n:=by
       refine Classical.byContradiction fun hn=>?_;rw[vI hO hV (by omega)]at hx;cases hx
     rcases(l7 (D:=dS G n A) hV hO hi h3).1 hx with⟨h5,h6,rfl⟩ | ⟨q,h5,h6,rfl⟩
     . simp at e
     by_cases hq:q<0
     . have hq1:q=-1:=by have:=(jV h5).1;omega
       subst hq1;have ht0:0<=t:=by omega
       rw[h4]at h6;have hA:=aJ.cZ.BU hO hS (Lr hV) hL hi h5.2 rfl;have h6:(A (i,((-1:Int),((1:Nat):Int)))).testBit t.toNat=true:=h6;have h8:A (i,((-1:Int),((1:Nat):Int)))=aZ 63:=hA;rw[h8,aJ.dN]at h6;have h9:=of_decide_eq_true h6;have ht63:t=63:=by omega
       refine⟨ht63,?_⟩;rw[ht63];exact lk_of hV hO hL (p:=-1) (d:=1) (t:=63) h5 (by rw[h8];decide)
     rw[if_neg hq]at e;simp at e }
theorem zy (hO:aN G n){D:Nat->Nat->List It}{i:Nat}{σ:List Nat}{γ:List Int}(h:LR.Path (mG G n D) (i::σ) γ):∃ p d,(mG G n D).C i p d/\(0<d\/p=-1):=by
 obtain⟨hI,ha,hl⟩:=hO.inv;have hi:i<n:=by
  cases h with
  | base=>exact aJ.cZ.uk hO
  | more j σ γ s _ hg =>
   obtain⟨_,q,e1,_,e3,_⟩:=yu hO hg;show(ng G (ag G n).nx (j:Int) s).toNat<n;rw[e1];exact e3
 cases h with
 | base=>exact⟨-1,0,⟨hi,aJ.cZ.jC hO⟩,.inr rfl⟩
 | more j σ γ s _ hg =>
  obtain⟨_,q,e1,_,e3,e4⟩:=yu hO hg;have ht:(mG G n D).to j s=q:=by show(ng G (ag G n).nx (j:Int) s).toNat=q;rw[e1];rfl
  have hne:=hI.kers.some_ _ (List.mem_of_getElem? e4);obtain⟨x,hx⟩:=List.exists_mem_of_ne_nil _ hne;have hxC:x∈(bi G n (E0 G) (F0 G)).C q:=iV.2 (.base x (by rw[aO.getD_get e4];exact hx) (by
   obtain⟨y,_,hb,rfl⟩:=aO.iU.1 hx;exact aJ.cZ.oZ hb))
  obtain⟨d,hd⟩:=EZ hxC;refine⟨x.1,d,⟨by rw[ht];exact e3,by rw[ht,<-hd];exact hxC⟩,.inl ?_⟩;have:=(aO.step_dot hx).1;have h2:x.2=(d:Int):=by rw[hd]
  omega
end
end wQ
end Go.Proofs.YticmnfmijdgmbaaGreatDoor
