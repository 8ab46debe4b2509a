import Derived.Test.YticmnfmijdgmbaaGreatDoorGa
set_option linter.all false
open Go.Proofs.YticmnfmijdgmbaaGreatDoor (GD PD)
namespace Go.Proofs.aO
abbrev It:=Int×Int
def ax (G:GD)(p:Int):List Int:=if p=-1 then [-1-G.start]else(G.prods.getD p.toNat default).rs
def bu (G:GD)(x:It):Bool:=decide (-1<=x.1/\x.1<(G.prods.length:Int)/\0<=x.2/\x.2<=((ax G x.1).length:Int))
theorem bW {G:GD}{x:It} : bu G x=true↔-1<=x.1/\x.1<(G.prods.length:Int)/\0<=x.2/\x.2<=((ax G x.1).length:Int):=decide_eq_true_iff
def aY (G:GD)(x:It):Option Int:=if bu G x=true then(ax G x.1)[x.2.toNat]? else none
theorem fA {G:GD}{x:It}{s:Int}(h:aY G x=some s):bu G x=true:=by
 unfold aY at h;split at h
 ·assumption
 ·cases h
def bg (G:GD)(p:Nat):Int:=(G.prods.getD p default).sort
inductive rP (G:GD) (l:List It):It->Prop
 | base (x:It) (h:x∈l) (ht:bu G x=true):rP G l x
 | more (x:It) (s:Int) (p:Nat) (h:rP G l x) (hb:aY G x=some s) (hs:s<0) (hp:p<G.prods.length) (he:bg G p=-1-s):rP G l ((p:Int),0)
theorem DR {G:GD}{p:Nat}(hp:p<G.prods.length):bu G ((p:Int),0)=true:=bW.2 ⟨by show(-1:Int)<=p;omega,by show(p:Int)<_;omega,Int.le_refl _,Int.natCast_nonneg _⟩
theorem rP.there {G:GD}{l:List It}{x:It}(h:rP G l x):bu G x=true:=by
 cases h with
 | base _ _ ht=>exact ht
 | more _ _ _ _ _ _ hp _=>exact DR hp
def Less (a b:It):Prop:=a.1<b.1\/a.1=b.1/\a.2<b.2
theorem Less.trans {a b c:It}(h:Less a b)(g:Less b c):Less a c:=by unfold Less at *;omega
theorem Less.irrefl {a:It} : ¬ Less a a:=by unfold Less;omega
theorem Less.total {a b:It}(h:¬ Less a b)(g:¬ Less b a):a=b:=by
 unfold Less at *;exact Prod.ext (by omega) (by omega)
def iQ (l:List It):Prop:=l.Pairwise Less
theorem iQ.eq:∀ {a b:List It},iQ a->iQ b->(∀ x,x∈a↔x∈b)->a=b
 | [],[],_,_,_=>rfl
 | [],y::b,_,_,h=>absurd ((h y).2 (by simp)) (by simp)
 | x::a,[],_,_,h=>absurd ((h x).1 (by simp)) (by simp)
 | x::a,y::b,ha,hb,h=>by
  obtain⟨ha1,ha2⟩:=List.pairwise_cons.1 ha;obtain⟨hb1,hb2⟩:=List.pairwise_cons.1 hb;have hxy:x=y:=by
   rcases List.mem_cons.1 ((h x).1 (by simp))with e | e
   ·exact e
   ·rcases List.mem_cons.1 ((h y).2 (by simp))with e' | e'
    ·exact e'.symm
    ·exact absurd ((hb1 x e).trans (ha1 y e')) Less.irrefl
  subst hxy;have:a=b:=iQ.eq ha2 hb2 fun z=>by
   constructor
   ·intro hz;rcases List.mem_cons.1 ((h z).1 (by simp[hz]))with e | e
    ·exact absurd (ha1 z hz) (by rw[e];exact Less.irrefl)
    ·exact e
   ·intro hz;rcases List.mem_cons.1 ((h z).2 (by simp[hz]))with e | e
    ·exact absurd (hb1 z hz) (by rw[e];exact Less.irrefl)
    ·exact e
  rw[this]
def iR (G:GD)(l c:List It):Prop:=iQ c/\∀ x,x∈c↔rP G l x
theorem iR.one {G:GD}{l c d:List It}(h:iR G l c)(g:iR G l d):c=d:=h.1.eq g.1 fun x=>(h.2 x).trans (g.2 x).symm
theorem iR.again {G:GD}{l c:List It}(h:iR G l c):iR G c c:=⟨h.1,fun x=>⟨fun hx=>.base x hx ((h.2 x).1 hx).there,fun hx=>by
 induction hx with
 | base x hx _=>exact hx
 | more x s p _ hb hs hp he ih=>exact(h.2 _).2 (.more x s p ((h.2 x).1 ih) hb hs hp he)⟩⟩
theorem rP.same {G:GD}{l m:List It}(h:∀ x,bu G x=true->(x∈l↔x∈m)){x:It}(hx:rP G l x):rP G m x:=by
 induction hx with
 | base x hx ht=>exact .base x ((h x ht).1 hx) ht
 | more x s p _ hb hs hp he ih=>exact .more x s p ih hb hs hp he
def aX (G:GD)(c:List It)(s:Int):List It:=(c.filter fun x=>aY G x == some s).map fun x=>(x.1,x.2+1)
theorem Eu {G:GD}{c:List It}(h:iQ c)(s:Int):iQ (aX G c s):=by
 unfold aX iQ;rw[List.pairwise_map];exact(List.Pairwise.filter _ h).imp fun {a b} hab=>by unfold Less at *;show a.1<b.1\/a.1=b.1/\a.2+1<b.2+1;omega
structure wU (G:GD) (l out:List It) (begun:Nat->Bool) (i:Nat):Prop where
 inn:∀ x∈out,rP G l x
 base:∀ x∈l,bu G x=true->x∈out
 all:∀ t p,begun t=true->p<G.prods.length->bg G p=(t:Int)->((p:Int),0)∈out
 done:∀ j x s,j<i->out[j]?=some x->aY G x=some s->s<0->begun (-1-s).toNat=true
theorem wU.close {G:GD}{l out:List It}{begun:Nat->Bool}{i:Nat}(h:wU G l out begun i)(hi:out.length<=i)(x:It):x∈out↔rP G l x:=by
 refine⟨h.inn x,fun hx=>?_⟩;induction hx with
 | base x hx ht=>exact h.base x hx ht
 | more x s p hx hb hs hp he ih =>
  obtain⟨j,hj,e⟩:=List.mem_iff_getElem.1 ih;have:=h.done j x s (by omega) (by rw[dH hj,e]) hb hs;exact h.all _ p this hp (by rw[he];omega)
theorem wU.skip {G:GD}{l out:List It}{begun:Nat->Bool}{i:Nat}{x:It}(h:wU G l out begun i)(hx:out[i]?=some x)(hn:∀ s,aY G x=some s->s<0->begun (-1-s).toNat=true):wU G l out begun (i+1):=
 ⟨h.inn,h.base,h.all,fun j y s hj hy hb hs=>by
  by_cases hji:j<i
  ·exact h.done j y s hji hy hb hs
  ·obtain rfl:j=i:=by omega
   rw[hx]at hy;injection hy with hy;subst hy;exact hn s hb hs⟩
def jc (G:GD)(t:Nat)(n:Nat):List It:=((List.range n).filter fun p=>bg G p == (t:Int)).map fun p:Nat=>((p:Int),(0:Int))
theorem wG (G:GD)(t n:Nat):jc G t (n+1)=jc G t n++if bg G n=(t:Int)then [((n:Int),0)]else []:=by
 unfold jc;rw[List.range_succ,List.filter_append,List.map_append];congr 1;by_cases h:bg G n=(t:Int)
 ·simp[h]
 ·simp[h]
theorem x9 {G:GD}{t n:Nat}{x:It} : x∈jc G t n↔∃ p:Nat,p<n/\bg G p=(t:Int)/\x=((p:Int),0):=by
 unfold jc;simp only[List.mem_map,List.mem_filter,List.mem_range,beq_iff_eq];constructor
 ·rintro⟨p,⟨h1,h2⟩,rfl⟩;exact⟨p,h1,h2,rfl⟩
 ·rintro⟨p,h1,h2,rfl⟩;exact⟨p,⟨h1,h2⟩,rfl⟩
theorem wU.qM {G:GD}{l out:List It}{begun:Nat->Bool}{i t:Nat}{x:It}(h:wU G l out begun i)(hx:out[i]?=some x)(hb:aY G x=some (-1-(t:Int))) :
  wU G l (out++jc G t G.prods.length) (fun k=>if k=t then true else begun k) (i+1):=by
 have hin:rP G l x:=h.inn x (List.mem_of_getElem? hx);have hlt:=(List.getElem?_eq_some_iff.1 hx).1;refine⟨fun y hy=>?_,fun y hy ht=>List.mem_append_left _ (h.base y hy ht),fun k p hk hp he=>?_,fun j y s hj hy hbe hs=>?_⟩
 ·rcases List.mem_append.1 hy with hy | hy
  ·exact h.inn y hy
  ·obtain⟨p,hp,he,rfl⟩:=x9.1 hy;exact .more x _ p hin hb (by omega) hp (by omega)
 ·by_cases hkt:k=t
  ·subst hkt;exact List.mem_append_right _ (x9.2 ⟨p,hp,he,rfl⟩)
  ·rw[if_neg hkt]at hk;exact List.mem_append_left _ (h.all k p hk hp he)
 ·rw[List.getElem?_append_left (by omega)]at hy;show(if _ then _ else _)=true;by_cases hji:j<i
  ·have:=h.done j y s hji hy hbe hs;split
   ·rfl
   ·exact this
  ·obtain rfl:j=i:=by omega
   rw[hx]at hy;injection hy with hy;subst hy;rw[hb]at hbe;injection hbe with hbe;rw[if_pos (by omega)]
def BL (G:GD):List It:=(List.range (G.prods.length+1)).flatMap fun q:Nat=>(List.range ((ax G ((q:Int)-1)).length+1)).map fun d:Nat=>((q:Int)-1,(d:Int))
theorem Jc (G:GD):iQ (BL G):=by
 unfold BL iQ;rw[List.pairwise_flatMap];refine⟨fun q _=>?_,?_⟩
 ·rw[List.pairwise_map];exact List.pairwise_lt_range.imp fun {a b} h=>by unfold Less;show _\/(q:Int)-1=(q:Int)-1/\(a:Int)<(b:Int);omega
 ·refine List.pairwise_lt_range.imp fun {a b} h x hx y hy=>?_;obtain⟨d,_,rfl⟩:=List.mem_map.1 hx;obtain⟨e,_,rfl⟩:=List.mem_map.1 hy;unfold Less;show(a:Int)-1<(b:Int)-1\/_;omega
theorem qy {G:GD}{x:It}(h:bu G x=true):x∈BL G:=by
 obtain⟨h1,h2,h3,h4⟩:=bW.1 h;unfold BL;rw[List.mem_flatMap];refine⟨(x.1+1).toNat,List.mem_range.2 (by omega),List.mem_map.2 ⟨x.2.toNat,List.mem_range.2 ?_,?_⟩⟩
 ·rw[show(((x.1+1).toNat:Nat):Int)-1=x.1 by omega];omega
 ·exact Prod.ext (by show(((x.1+1).toNat:Nat):Int)-1=x.1;omega) (by show((x.2.toNat:Nat):Int)=x.2;omega)
open Classical in
noncomputable def inB (G:GD) (l:List It) (x:It):Bool:=if rP G l x then true else false
theorem inB_iff {G:GD}{l:List It}{x:It} : inB G l x=true↔rP G l x:=by unfold inB;split<;>simp_all
noncomputable def aP (G:GD) (l:List It):List It:=(BL G).filter (inB G l)
theorem eY (G:GD)(l:List It):iR G l (aP G l):=⟨List.Pairwise.filter _ (Jc G),fun x=>by
 unfold aP;rw[List.mem_filter,inB_iff];exact⟨fun h=>h.2,fun h=>⟨qy h.there,h⟩⟩⟩
theorem vN {G:GD}{l c:List It}(h:iR G l c):c=aP G l:=h.one (eY G l)
theorem uB (G:GD)(l:List It):aP G (aP G l)=aP G l:=((eY G l).again.one (eY G (aP G l))).symm
theorem yD (G:GD):aP G []=[]:=by
 refine List.eq_nil_iff_forall_not_mem.2 fun x hx=>?_;have h:=((eY G []).2 x).1 hx;clear hx;induction h with
 | base x hx _=>cases hx
 | more x s p _ _ _ _ _ ih=>exact ih
def cO (G:GD):List Int:=(List.range G.terms.length).map (fun t:Nat=>(t:Int))++(List.range G.sorts.length).map (fun s:Nat=>-1-(s:Int))
theorem kD (G:GD):(cO G).length=G.terms.length+G.sorts.length:=by unfold cO;simp
def fG (k:List It)(ker:List (List It)):Int×List (List It):=
 if k=[]then(-1,ker)else match ker.idxOf? k with
  | some i=>((i:Int),ker)
  | none=>((ker.length:Int),ker++[k])
def jP (G:GD)(c:List It):List Int->List Int×List (List It)->List Int×List (List It)
 | [],s=>s
 | y::r,s=>jP G c r (s.1++[(fG (aX G c y) s.2).1],(fG (aX G c y) s.2).2)
theorem CO (G:GD)(c:List It):∀ (r q:List Int) (s:List Int×List (List It)),jP G c (r++q) s=jP G c q (jP G c r s)
 | [],q,s=>rfl
 | y::r,q,s=>by rw[List.cons_append,jP,jP,CO G c r q]
structure J14 where
 at_:Nat
 ker:List (List It)
 nx:List (List Int)
noncomputable def gJ (G:GD) (j:J14):J14:=
 {at_:=j.at_+1,ker:=(jP G (aP G (j.ker.getD j.at_ [])) (cO G) ([],j.ker)).2,nx:=j.nx++[(jP G (aP G (j.ker.getD j.at_ [])) (cO G) ([],j.ker)).1]}
noncomputable def ag (G:GD):Nat->J14
 | 0=>{at_:=0,ker:=[[(-1,0)]],nx:=[]}
 | n+1=>gJ G (ag G n)
theorem iL (G:GD):∀ n,(ag G n).at_=n/\(ag G n).nx.length=n
 | 0=>⟨rfl,rfl⟩
 | n+1=>by
  obtain⟨h1,h2⟩:=iL G n;exact⟨by show(ag G n).at_+1=n+1;rw[h1],by show((ag G n).nx++[_]).length=n+1;rw[List.length_append,h2];rfl⟩
def fB (G:GD)(n:Nat):Prop:=(∀ m,m<n->m<(ag G m).ker.length)/\∀ m,m<n->(ag G (m+1)).ker.length<=2000
def aN (G:GD)(n:Nat):Prop:=fB G n/\¬ n<(ag G n).ker.length
def dn (G:GD)(n:Nat):Prop:=fB G n/\n<(ag G n).ker.length/\¬ (ag G (n+1)).ker.length<=2000
theorem fB.one {G:GD}{n m:Nat}(h:aN G n)(g:aN G m):n=m:=by
 rcases Nat.lt_trichotomy n m with e | e | e
 ·exact absurd (g.1.1 n e) h.2
 ·exact e
 ·exact absurd (h.1.1 m e) g.2
theorem fB.not {G:GD}{n m:Nat}(h:aN G n)(g:dn G m):False:=by
 rcases Nat.lt_trichotomy n m with e | e | e
 ·exact h.2 (g.1.1 n e)
 ·subst e;exact h.2 g.2.1
 ·exact g.2.2 (h.1.2 m e)
theorem JV (k:List It)(ker:List (List It)):ker.length<=(fG k ker).2.length/\(fG k ker).2.length<=ker.length+1:=by
 unfold fG;split
 ·exact⟨bJ _,Nat.le_succ _⟩
 ·split
  ·exact⟨bJ _,Nat.le_succ _⟩
  ·rw[List.length_append];exact⟨Nat.le_add_right _ _,bJ _⟩
theorem ou (G:GD)(c:List It):∀ (r:List Int) (s:List Int×List (List It)),(jP G c r s).1.length=s.1.length+r.length/\s.2.length<=(jP G c r s).2.length/\(jP G c r s).2.length<=s.2.length+r.length
 | [],s=>⟨rfl,bJ _,bJ _⟩
 | y::r,s=>by
  obtain⟨h1,h2,h3⟩:=ou G c r (s.1++[(fG (aX G c y) s.2).1],(fG (aX G c y) s.2).2);have h4:=JV (aX G c y) s.2;have h5:(s.1++[(fG (aX G c y) s.2).1]).length=s.1.length+1:=by simp
  simp only[h5]at h1;simp only at h2 h3;rw[jP,List.length_cons];exact⟨by omega,by omega,by omega⟩
def Num (v:Int)(y:List It)(ker:List (List It)):Prop:=(v=-1/\y=[])\/∃ j:Nat,v=(j:Int)/\ker[j]?=some y
theorem Num.more {v:Int}{y:List It}{ker kes:List (List It)}(h:Num v y ker)(hp:ker <+: kes):Num v y kes:=by
 obtain⟨t,rfl⟩:=hp;rcases h with h | ⟨j,h1,h2⟩
 ·exact .inl h
 ·exact .inr ⟨j,h1,by rw[List.getElem?_append_left (List.getElem?_eq_some_iff.1 h2).1];exact h2⟩
structure y9 (ker:List (List It)):Prop where
 some_:∀ k∈ker,k≠[]
 nd:ker.Nodup
theorem num_ok {y:List It}{ker:List (List It)}(h:y9 ker):y9 (fG y ker).2/\ker <+: (fG y ker).2/\Num (fG y ker).1 y (fG y ker).2/\((fG y ker).2=ker\/(fG y ker).2=ker++[y]/\(fG y ker).1=(ker.length:Int)):=by
 unfold fG;by_cases hy:y=[]
 ·rw[if_pos hy];exact⟨h,List.prefix_refl _,.inl ⟨rfl,hy⟩,.inl rfl⟩
 ·rw[if_neg hy];cases e:ker.idxOf? y with
  | some i =>
   have hi:ker[i]?=some y:=by
    obtain⟨hi,hp,_⟩:=List.findIdx?_eq_some_iff_getElem.1 e;rw[dH hi,beq_iff_eq.1 hp]
   exact⟨h,List.prefix_refl _,.inr ⟨i,rfl,hi⟩,.inl rfl⟩
  | none =>
   have hn:y∉ker:=fun hm=>by
    have:=List.findIdx?_eq_none_iff.1 e y hm;simp at this
   refine⟨⟨fun k hk=>?_,?_⟩,List.prefix_append _ _,.inr ⟨ker.length,rfl,by rw[List.getElem?_append_right (bJ _),Nat.sub_self];rfl⟩,.inr ⟨rfl,rfl⟩⟩
   ·rcases List.mem_append.1 hk with hk | hk
    ·exact h.some_ k hk
    ·rw[List.mem_singleton.1 hk];exact hy
   ·refine List.nodup_append.2 ⟨h.nd,List.nodup_cons.2 ⟨by simp,List.nodup_nil⟩,fun a ha b hb=>?_⟩;rw[List.mem_singleton.1 hb];intro e2;exact hn (e2▸ha)
theorem getD_get {α:Type}{l:List α}{i:Nat}{x d:α}(h:l[i]?=some x):l.getD i d=x:=by rw[dL,h];rfl
theorem EE (G:GD)(c:List It):∀ (r:List Int) (S:List Int) (ker:List (List It)),y9 ker ->
  y9 (jP G c r (S,ker)).2/\ker <+: (jP G c r (S,ker)).2/\S <+: (jP G c r (S,ker)).1 /\
  (∀ k s,r[k]?=some s->∃ v,(jP G c r (S,ker)).1[S.length+k]?=some v/\Num v (aX G c s) (jP G c r (S,ker)).2) /\
  ∀ j,ker.length<=j->j<(jP G c r (S,ker)).2.length->∃ k,k<r.length/\(jP G c r (S,ker)).1[S.length+k]?=some (j:Int)
 | [],S,ker,h=>⟨h,List.prefix_refl _,List.prefix_refl _,fun k s hk=>by simp at hk,fun j h1 h2=>absurd h2 (by show ¬ j<ker.length;omega)⟩
 | y::r,S,ker,h=>by
  obtain⟨h1,h2,h3,h4⟩:=num_ok (y:=aX G c y) h;obtain⟨k1,k2,k3,k4,k5⟩:=EE G c r (S++[(fG (aX G c y) ker).1]) (fG (aX G c y) ker).2 h1;rw[jP];have hl:(S++[(fG (aX G c y) ker).1]).length=S.length+1:=by simp
  have h0:(jP G c r (S++[(fG (aX G c y) ker).1],(fG (aX G c y) ker).2)).1[S.length]?=some (fG (aX G c y) ker).1:=by
   obtain⟨t,ht⟩:=k3;rw[<-ht,List.getElem?_append_left (by omega),List.getElem?_append_right (bJ _),Nat.sub_self];rfl
  refine⟨k1,h2.trans k2,(List.prefix_append _ _).trans k3,fun k s hk=>?_,fun j j1 j2=>?_⟩
  ·cases k with
   | zero =>
    obtain rfl:y=s:=by simpa using hk
    exact⟨_,h0,h3.more k2⟩
   | succ k =>
    obtain⟨v,e1,e2⟩:=k4 k s (by simpa using hk);rw[hl]at e1;exact⟨v,by rw[show S.length+(k+1)=S.length+1+k by omega];exact e1,e2⟩
  ·by_cases hj:(fG (aX G c y) ker).2.length<=j
   ·obtain⟨k,e1,e2⟩:=k5 j hj j2;rw[hl]at e2;exact⟨k+1,by simpa using e1,by rw[show S.length+(k+1)=S.length+1+k by omega];exact e2⟩
   ·rcases h4 with e | ⟨e,e'⟩
    ·rw[e]at hj;omega
    ·rw[e,List.length_append]at hj;have:j=ker.length:=by simp at hj;omega
     subst this;exact⟨0,by simp,by rw[Nat.add_zero,h0,e']⟩
structure uH (G:GD) (j:J14):Prop where
 kers:y9 j.ker
 first:j.ker[0]?=some [(-1,0)]
 len:j.nx.length=j.at_
 num:∀ i:Nat,i<j.at_->∀ (k:Nat) (s:Int),(cO G)[k]?=some s->∃ (R:List Int) (v:Int),j.nx[i]?=some R/\R[k]?=some v/\Num v (aX G (aP G (j.ker.getD i [])) s) j.ker
 rl:∀ (i:Nat) (R:List Int),j.nx[i]?=some R->R.length=(cO G).length
 come:∀ q:Nat,0<q->q<j.ker.length->∃ (i k:Nat) (R:List Int),i<j.at_/\i<q/\j.nx[i]?=some R/\R[k]?=some (q:Int)/\k<(cO G).length
theorem uH.start (G:GD):uH G (ag G 0):=⟨⟨fun k hk=>by rw[show k=[(-1,0)]by simpa[ag] using hk];simp,by simp[ag]⟩,rfl,rfl,fun i hi=>absurd hi (Nat.not_lt_zero i),fun i R h=>by simp[ag]at h,fun q h1 h2=>absurd h2 (by simp[ag];omega)⟩
theorem uH.step {G:GD}{j:J14}(h:uH G j)(hlt:j.at_<j.ker.length):uH G (gJ G j):=by
 obtain⟨k1,k2,k3,k4,k5⟩:=EE G (aP G (j.ker.getD j.at_ [])) (cO G) [] j.ker h.kers;have hrl:=(ou G (aP G (j.ker.getD j.at_ [])) (cO G) ([],j.ker)).1;have hpre:=k2;obtain⟨t,ht⟩:=k2;have hker:(gJ G j).ker=(jP G (aP G (j.ker.getD j.at_ [])) (cO G) ([],j.ker)).2:=rfl;have hnx:(gJ G j).nx=j.nx++[(jP G (aP G (j.ker.getD j.at_ [])) (cO G) ([],j.ker)).1]:=rfl;have hat:(gJ G j).at_=j.at_+1:=rfl;generalize jP G (aP G (j.ker.getD j.at_ [])) (cO G) ([],j.ker)=RR at *;rw[<-hker]at k1 k4 k5 ht hpre;have hold:∀ i,i<j.ker.length->(gJ G j).ker.getD i []=j.ker.getD i []:=fun i hi=>by
  rw[<-ht,dL,List.getElem?_append_left hi,<-dL]
 have hold2:∀ (i:Nat) R,j.nx[i]?=some R->(gJ G j).nx[i]?=some R:=fun i R hR=>by rw[hnx,List.getElem?_append_left (List.getElem?_eq_some_iff.1 hR).1];exact hR
 have hlast:(gJ G j).nx[j.at_]?=some RR.1:=by rw[hnx,<-h.len,List.getElem?_append_right (bJ _),Nat.sub_self];rfl
 refine⟨k1,?_,by rw[hnx,hat,List.length_append,h.len];rfl,fun i hi k s hs=>?_,fun i R hR=>?_,fun q q0 q1=>?_⟩
 ·rw[<-ht,List.getElem?_append_left (by omega)];exact h.first
 ·by_cases hi2:i<j.at_
  ·obtain⟨R,v,e1,e2,e3⟩:=h.num i hi2 k s hs;exact⟨R,v,hold2 i R e1,e2,by rw[hold i (by omega)];exact e3.more hpre⟩
  ·obtain rfl:i=j.at_:=by rw[hat]at hi;omega
   obtain⟨v,e1,e2⟩:=k4 k s hs;rw[hold _ hlt];exact⟨RR.1,v,hlast,by simpa using e1,e2⟩
 ·rw[hnx]at hR;by_cases hi2:i<j.nx.length
  ·rw[List.getElem?_append_left hi2]at hR;exact h.rl i R hR
  ·rw[List.getElem?_append_right (by omega)]at hR;have h0:i-j.nx.length=0:=by
    have:=(List.getElem?_eq_some_iff.1 hR).1;simpa using this
   rw[h0]at hR;obtain rfl:RR.1=R:=by simpa using hR
   rw[hrl];simp
 ·by_cases hq:q<j.ker.length
  ·obtain⟨i,k,R,e1,e2,e3,e4,e5⟩:=h.come q q0 hq;exact⟨i,k,R,by rw[hat];omega,e2,hold2 i R e3,e4,e5⟩
  ·obtain⟨k,e1,e2⟩:=k5 q (by omega) q1;exact⟨j.at_,k,RR.1,by rw[hat];omega,by omega,hlast,by simpa using e2,e1⟩
theorem uH.iter (G:GD):∀ n,(∀ m,m<n->m<(ag G m).ker.length)->uH G (ag G n)
 | 0,_=>uH.start G
 | n+1,h=>by
  have i:=uH.iter G n fun m hm=>h m (by omega);exact i.step (by rw[(iL G n).1];exact h n (by omega))
theorem aN.inv {G:GD}{n:Nat}(h:aN G n):uH G (ag G n)/\(ag G n).at_=n/\(ag G n).ker.length=n:=by
 have i:=uH.iter G n h.1.1;refine⟨i,(iL G n).1,?_⟩;have h1:=h.2;have h2:n<=(ag G n).ker.length:=by
  cases n with
  | zero=>exact Nat.zero_le _
  | succ n =>
   have h3:=h.1.1 n (by omega);have h4:=(ou G (aP G ((ag G n).ker.getD (ag G n).at_ [])) (cO G) ([],(ag G n).ker)).2.1;exact Nat.lt_of_lt_of_le h3 h4
 omega
theorem iU {G:GD}{c:List It}{s:Int}{y:It} : y∈aX G c s↔∃ x∈c,aY G x=some s/\y=(x.1,x.2+1):=by
 unfold aX;simp only[List.mem_map,List.mem_filter,beq_iff_eq];constructor
 ·rintro⟨x,⟨h1,h2⟩,rfl⟩;exact⟨x,h1,h2,rfl⟩
 ·rintro⟨x,h1,h2,rfl⟩;exact⟨x,⟨h1,h2⟩,rfl⟩
theorem step_dot {G:GD}{c:List It}{s:Int}{y:It}(h:y∈aX G c s):1<=y.2/\aY G (y.1,y.2-1)=some s:=by
 obtain⟨x,_,hb,rfl⟩:=iU.1 h;have:=(bW.1 (fA hb)).2.2.1;refine⟨by show 1<=x.2+1;omega,?_⟩;show aY G (x.1,x.2+1-1)=some s;rw[show x.2+1-1=x.2 by omega];exact hb
theorem uH.gY {G:GD}{j:J14}(h:uH G j){i k:Nat}{s v:Int}{R:List Int}(hi:i<j.at_)(hs:(cO G)[k]?=some s)(hR:j.nx[i]?=some R)(hv:R[k]?=some v) :
  (v=-1/\aX G (aP G (j.ker.getD i [])) s=[])\/∃ q:Nat,v=(q:Int)/\0<q/\q<j.ker.length/\j.ker[q]?=some (aX G (aP G (j.ker.getD i [])) s):=by
 obtain⟨R',v',e1,e2,e3⟩:=h.num i hi k s hs;rw[hR]at e1;injection e1 with e1;subst e1;rw[hv]at e2;injection e2 with e2;subst e2;rcases e3 with e3 | ⟨q,rfl,hq⟩
 ·exact .inl e3
 ·refine .inr ⟨q,rfl,?_,(List.getElem?_eq_some_iff.1 hq).1,hq⟩;rcases Nat.eq_zero_or_pos q with e | e
  ·subst e;have hf:=h.first
   rw[hq]at hf;injection hf with hf;have:((-1:Int),(0:Int))∈aX G (aP G (j.ker.getD i [])) s:=by rw[hf];simp
   have:=(step_dot this).1;omega
  ·exact e
structure More (G H:GD):Prop where
 terms:H.terms=G.terms
 sorts:H.sorts.length=G.sorts.length
 start:H.start=G.start
 prods:∃ p,H.prods=G.prods++[p]
theorem More.right {G H:GD}(h:More G H){q:Int}(h1:-1<=q)(h2:q<(G.prods.length:Int)):ax H q=ax G q:=by
 obtain⟨p,hp⟩:=h.prods;unfold ax;rw[h.start,hp];split
 ·rfl
 ·rw[dL,List.getElem?_append_left (by omega),<-dL]
theorem More.there {G H:GD}(h:More G H){x:It}(hx:bu G x=true):bu H x=true:=by
 obtain⟨h1,h2,h3,h4⟩:=bW.1 hx;obtain⟨p,hp⟩:=h.prods;exact bW.2 ⟨h1,by rw[hp,List.length_append];omega,h3,by rw[h.right h1 h2];exact h4⟩
theorem More.beh {G H:GD}(h:More G H){x:It}{s:Int}(hb:aY G x=some s):aY H x=some s:=by
 have ht:=fA hb;obtain⟨h1,h2,_,_⟩:=bW.1 ht;unfold aY at hb ⊢;rw[if_pos ht]at hb;rw[if_pos (h.there ht),h.right h1 h2];exact hb
theorem More.inn {G H:GD}(h:More G H){l m:List It}(hl:∀ x∈l,x∈m){x:It}(hx:rP G l x):rP H m x:=by
 induction hx with
 | base x hx ht=>exact .base x (hl x hx) (h.there ht)
 | more x s p _ hb hs hp he ih =>
  obtain⟨q,hq⟩:=h.prods;refine .more x s p ih (h.beh hb) hs (by rw[hq,List.length_append];omega) ?_;unfold bg at he ⊢;rw[hq,dL,List.getElem?_append_left hp,<-dL];exact he
theorem More.step {G H:GD}(h:More G H){l m:List It}(hl:∀ x∈l,x∈m)(s:Int):∀ y∈aX G (aP G l) s,y∈aX H (aP H m) s:=fun y hy=>by
 obtain⟨x,hx,hb,rfl⟩:=iU.1 hy;exact iU.2 ⟨x,((eY H m).2 x).2 (h.inn hl (((eY G l).2 x).1 hx)),h.beh hb,rfl⟩
theorem More.kernel {G H:GD}(h:More G H){n m:Nat}(hG:aN G n)(hH:aN H m):∀ (q:Nat) (k:List It),(ag G n).ker[q]?=some k->∃ (r:Nat) (k':List It),(ag H m).ker[r]?=some k'/\∀ x∈k,x∈k':=by
 obtain⟨iG,aG,lG⟩:=hG.inv;obtain⟨iH,aH,lH⟩:=hH.inv;intro q;induction q using Nat.strongRecOn with
 | _ q ih =>
  intro k hk;rcases Nat.eq_zero_or_pos q with e | e
  ·subst e;rw[iG.first]at hk;injection hk with hk;subst hk;exact⟨0,_,iH.first,fun x hx=>hx⟩
  ·obtain⟨i,c,R,hi,hiq,hR,hv,hc⟩:=iG.come q e (List.getElem?_eq_some_iff.1 hk).1;obtain⟨s,hs⟩:∃ s,(cO G)[c]?=some s:=⟨_,dH hc⟩;rcases iG.gY hi hs hR hv with⟨e1,_⟩ | ⟨q',e1,_,_,e2⟩
   ·omega
   ·obtain rfl:q=q':=by omega
    rw[hk]at e2;injection e2 with e2;subst e2;obtain⟨ki,hki⟩:∃ ki,(ag G n).ker[i]?=some ki:=⟨_,dH (by omega)⟩;obtain⟨r,kr,hr,hsub⟩:=ih i hiq ki hki;have hrl:=(List.getElem?_eq_some_iff.1 hr).1;have hsy:(cO H)[c]?=some s:=by
     unfold cO at hs ⊢;rw[h.terms,h.sorts];exact hs
    obtain⟨R',v',e3,e4,e5⟩:=iH.num r (by omega) c s hsy;have hsup:=h.step hsub s;rw[getD_get hki];rw[getD_get hr]at e5;rcases e5 with⟨_,e5⟩ | ⟨r',_,e5⟩
    ·rw[e5]at hsup;have hne:=iG.kers.some_ _ (List.mem_of_getElem? hk);rw[getD_get hki]at hne;obtain⟨x,hx⟩:=List.exists_mem_of_ne_nil _ hne;exact absurd (hsup x hx) (by simp)
    ·exact⟨r',_,e5,hsup⟩
def dF:List It->List It
 | []=>[]
 | [x]=>[x]
 | x::y::r=>if x=y then dF (y::r)else x::dF (y::r)
theorem rF:∀ (l:List It)(z:It),z∈dF l↔z∈l
 | [],z=>Iff.rfl
 | [x],z=>Iff.rfl
 | x::y::r,z=>by
  rw[dF];split
  ·rename_i h;subst h;rw[rF (x::r) z];simp
  ·rw[List.mem_cons,rF (y::r) z,<-List.mem_cons]
theorem sW:∀ (l:List It)(y x:It),dF (l++[y]++[x])=if x=y then dF (l++[y])else dF (l++[y])++[x]
 | [],y,x=>by
  show dF [y,x]=_;by_cases h:x=y
  ·subst h;simp[dF]
  ·have h':¬ y=x:=fun e=>h e.symm;simp[dF,h,h']
 | [a],y,x=>by
  have ih:=sW [] y x;rw[List.nil_append]at ih;show dF (a::y::[x])=if x=y then dF (a::y::[])else dF (a::y::[])++[x];have e1:∀ (r:List It),dF (a::y::r)=if a=y then dF (y::r)else a::dF (y::r):=fun r=>rfl;have ih':dF (y::[x])=if x=y then dF [y]else dF [y]++[x]:=ih;rw[e1,e1,ih'];by_cases h1:a=y<;>by_cases h2:x=y<;>simp[h1,h2]
 | a::b::l,y,x=>by
  have ih:=sW (b::l) y x;show dF (a::b::(l++[y]++[x]))=if x=y then dF (a::b::(l++[y]))else dF (a::b::(l++[y]))++[x];have ih':dF (b::(l++[y]++[x]))=if x=y then dF (b::(l++[y]))else dF (b::(l++[y]))++[x]:=ih;have e1:∀ (r:List It),dF (a::b::r)=if a=b then dF (b::r)else a::dF (b::r):=fun r=>rfl;rw[e1,e1,ih'];by_cases h1:a=b<;>by_cases h2:x=y<;>simp[h1,h2]
def Ord (l:List It):Prop:=l.Pairwise fun a b=>¬ Less b a
theorem sZ:∀ {l:List It},Ord l->iQ (dF l)
 | [],_=>List.Pairwise.nil
 | [x],_=>List.pairwise_singleton _ _
 | x::y::r,h=>by
  obtain⟨h1,h2⟩:=List.pairwise_cons.1 h;rw[dF];split
  ·exact sZ h2
  ·rename_i hne;refine List.pairwise_cons.2 ⟨fun z hz=>?_,sZ h2⟩;have hz':=(rF (y::r) z).1 hz;obtain⟨h3,_⟩:=List.pairwise_cons.1 h2;have hxy:Less x y:=by
    rcases Classical.em (Less x y)with e | e
    ·exact e
    ·exact absurd (Less.total e (h1 y (by simp))) hne
   rcases List.mem_cons.1 hz' with e | e
   ·rw[e];exact hxy
   ·rcases Classical.em (Less y z)with e' | e'
    ·exact hxy.trans e'
    ·rw[<-Less.total e' (h3 z e)];exact hxy
theorem sV {l:List It}{j:Nat}{x y:It}(hx:l[j+1]?=some x)(hy:l[j]?=some y):dF (l.take (j+2))=if x=y then dF (l.take (j+1))else dF (l.take (j+1))++[x]:=by
 rw[List.take_add_one,hx,List.take_add_one,hy];exact sW _ _ _
theorem Aa:∀ (l:List It),(dF l).length<=l.length
 | []=>bJ _
 | [x]=>bJ _
 | x::y::r=>by
  rw[dF];have:=Aa (y::r);split
  ·exact eX this (Nat.le_succ _)
  ·simpa using this
theorem yB:∀ {l:List It},(∀ j x y,l[j]?=some x->l[j+1]?=some y->x≠y)->dF l=l
 | [],_=>rfl
 | [x],_=>rfl
 | x::y::r,h=>by
  rw[dF,if_neg (h 0 x y rfl rfl),yB fun j a b ha hb=>h (j+1) a b ha hb]
end Go.Proofs.aO
