import Derived.Test.YticmnfmijdgmbaaGreatDoorZm
set_option linter.all false
set_option maxRecDepth 100000
set_option maxHeartbeats 8000000
namespace Go.Proofs.YticmnfmijdgmbaaGreatDoor.aJ
open aO (It)
namespace cZ
open aO (ax aY bg aP aX ag aN cO rP bu)
section
variable {ask:Ask}{P:List Pl}{b0:Pl}{v0:Nat}{A0 A:Pl->Nat}{c:Bool}
theorem nI.emp {Q:List Pl}(h:nI ask P b0 v0 A Q):nI ask P b0 v0 A []:=⟨h.snd,h.low,by simp,h.off⟩
theorem Hz {t:Pl}{v:Nat}(h:A t ||| v=A t):iI A t v=A:=funext fun q=>by
 unfold iI;split
 ·rename_i e;rw[h,e]
 ·rfl
structure RX (ask:Ask) (P:List Pl) (b0:Pl) (v0:Nat) (A0 A:Pl->Nat) (c:Bool):Prop where
 base:nI ask P b0 v0 A []
 up:∀ q,fM (A0 q) (A q)
 stay:c=false->A=A0
 less:c=true->jQ P A<jQ P A0
theorem RX.start (h:nI ask P b0 v0 A []):RX ask P b0 v0 A A false:=⟨h,fun _=>gB _,fun _=>rfl,fun h=>by cases h⟩
theorem RX.upd (h:RX ask P b0 v0 A0 A c){t:Pl}{v:Nat}(ht:t∈P)(hv:v<top)(hs:∀ M:Pl->Nat,lg ask P M->fM v0 (M b0)->fM v (M t)):RX ask P b0 v0 A0 (iI A t v) (c || (A t ||| v != A t)):=by
 by_cases he:A t ||| v=A t
 ·rw[Hz he,show(A t ||| v != A t)=false from by simp[he],Bool.or_false];exact h
 ·rw[show(A t ||| v != A t)=true from by simp[he],Bool.or_true];have hns:¬ fM v (A t):=fun hsub=>he (by
   refine jk (uY (gB _) hsub) (jI _ _))
  refine⟨(h.base.add ht hv hs).emp,fun q=>dG (h.up q) (ql A t v q),(fun h=>by cases h),fun _=>?_⟩;have h1:=JG (P:=P) ht hns (h.base.low t) hv;have h2:jQ P A<=jQ P A0:=room_le fun q=>sub_le (h.up q);omega
theorem xU {c:Bool}{a v:Nat}(h:(c || (a ||| v != a))=false):c=false/\fM v a:=by
 rw[Bool.or_eq_false_iff]at h;refine⟨h.1,?_⟩;have h2:a ||| v=a:=by simpa using h.2
 exact h2▸fU a v
end
theorem wC {c:Cx}{P:List Pl}{M:Pl->Nat}(h:lg (dJ c) P M){i:Nat}{x:It}{s:Int}(hp:(i,x)∈P)(hb:aY c.G x=some s):fM (M (i,x)) (M (c.to i s,(x.1,x.2+1))):=
 h (i,x) hp ((c.to i s,(x.1,x.2+1)),M (i,x)) (by rw[fE hb];exact List.mem_cons_self)
theorem D6 {c:Cx}{P:List Pl}{M:Pl->Nat}(h:lg (dJ c) P M){i q:Nat}{x:It}{s:Int}(hp:(i,x)∈P)(hb:aY c.G x=some s)(hs:s<0)(hq:q<c.G.prods.length)(he:bg c.G q=-1-s) :
  fM (ofRow c.G.terms.length c.E c.F (dV c.G x) (M (i,x))) (M (i,((q:Int),0))):=by
 rw[iO];exact h (i,x) hp ((i,((q:Int),0)),_) (by rw[fE hb,if_pos hs];exact List.mem_cons_of_mem _ (iK.2 ⟨q,hq,he,rfl⟩))
theorem Ac {c:Cx}{A:Pl->Nat}{i:Nat}{x:It}{s:Int}(hb:aY c.G x=some s)(h1:fM (A (i,x)) (A (c.to i s,(x.1,x.2+1))))
  (h2:s<0->∀ q:Nat,q<c.G.prods.length->bg c.G q=-1-s->fM (ofRow c.G.terms.length c.E c.F (dV c.G x) (A (i,x))) (A (i,((q:Int),0)))):ClosedAt (dJ c) A (i,x):=by
 intro e he;rw[fE hb]at he;rcases List.mem_cons.1 he with e1 | e1
 ·subst e1;exact h1
 ·by_cases hs:s<0
  ·rw[if_pos hs]at e1;obtain⟨q,h3,h4,rfl⟩:=iK.1 e1;have:=h2 hs q h3 h4;rw[iO]at this;exact this
  ·rw[if_neg hs]at e1;cases e1
theorem D5 {c:Cx}{A:Pl->Nat}{i:Nat}{x:It}(hb:aY c.G x=none):ClosedAt (dJ c) A (i,x):=by
 intro e he;rw[jo hb]at he;cases he
def jX (c:Cx)(A0:Pl->Nat)(i k:Nat):Prop:=∀ j m y,(c.C j)[m]?=some y->(j<i\/j=i/\m<k)->ClosedAt (dJ c) A0 (j,y)
theorem jX.start (c:Cx)(A0:Pl->Nat):jX c A0 0 0:=fun j m y _ h=>by omega
theorem jX.next {c:Cx}{A0:Pl->Nat}{i k:Nat}{x:It}(h:jX c A0 i k)(hx:(c.C i)[k]?=some x)(hc:ClosedAt (dJ c) A0 (i,x)):jX c A0 i (k+1):=fun j m y hy hjm=>by
 by_cases e:j=i/\m=k
 ·obtain⟨rfl,rfl⟩:=e;rw[hx]at hy;obtain rfl:=Option.some.inj hy;exact hc
 ·exact h j m y hy (by omega)
theorem jX.row {c:Cx}{A0:Pl->Nat}{i k:Nat}(h:jX c A0 i k)(hk:(c.C i).length<=k):jX c A0 (i+1) 0:=fun j m y hy hjm=>by
 have hm:=(List.getElem?_eq_some_iff.1 hy).1;refine h j m y hy ?_;rcases Nat.lt_or_ge j i with e | e
 ·exact .inl e
 ·obtain rfl:j=i:=by omega
  exact .inr ⟨rfl,by omega⟩
theorem jX.all {c:Cx}{A0:Pl->Nat}{n:Nat}(h:jX c A0 n 0):lg (dJ c) (places c n) A0:=by
 rintro⟨j,y⟩ hp;obtain⟨h1,h2⟩:=mem_places.1 hp;obtain⟨m,hm⟩:=List.mem_iff_getElem?.1 h2;exact h j m y hm (.inl h1)
theorem Ko {c:Cx}{n:Nat}{b0:Pl}{v0:Nat}{A0 A:Pl->Nat}(h:RX (dJ c) (places c n) b0 v0 A0 A false)(hm:jX c A0 n 0)(h0:fM v0 (A b0)):dm (dJ c) (places c n) b0 v0 A:=by
 have e:=h.stay rfl;subst e;exact⟨hm.all,h0,h.base.snd,h.base.off,h.base.low⟩
def xA (C:Nat->List It)(A:Pl->Nat)(i:Nat):List Nat:=(C i).map fun x=>A (i,x)
theorem FX {C:Nat->List It}{A:Pl->Nat}{i k:Nat}{x:It}{v:Nat}(hn:(C i).Nodup)(hx:(C i)[k]?=some x):xA C (iI A (i,x) v) i=(xA C A i).set k (A (i,x) ||| v):=by
 unfold xA;have hk:=(List.getElem?_eq_some_iff.1 hx).1;refine List.ext_getElem (by simp) fun j h1 h2=>?_;rw[List.getElem_set,List.getElem_map,List.getElem_map];have hj:j<(C i).length:=by simpa using h1
 have hxe:=(List.getElem?_eq_some_iff.1 hx).2;by_cases e:k=j
 ·subst e;rw[if_pos rfl,hxe,kz]
 ·rw[if_neg e,qm];intro e2;injection e2 with _ e2;exact e ((List.getElem_inj hn).1 (e2.trans hxe.symm)).symm
theorem FZ {C:Nat->List It}{A:Pl->Nat}{i j:Nat}{x:It}{v:Nat}(h:j≠i):xA C (iI A (i,x) v) j=xA C A j:=by
 unfold xA;refine List.map_congr_left fun y _=>qm fun e=>h ?_;injection e
theorem FY {C:Nat->List It}{A:Pl->Nat}{i k:Nat}{x:It}(hx:(C i)[k]?=some x):(xA C A i).getD k 0=A (i,x):=by
 unfold xA;rw[dL,List.getElem?_map,hx];rfl
def jD (l:List It)(x:It):Int:=match l.idxOf? x with | some k=>(k:Int) | none=>-1
theorem ni {l:List It}{k:Nat}{x:It}(hn:l.Nodup)(h:l[k]?=some x):jD l x=(k:Int):=by
 unfold jD;have hk:=(List.getElem?_eq_some_iff.1 h).1;cases e:l.idxOf? x with
 | none =>
  have:=List.findIdx?_eq_none_iff.1 e x (List.mem_of_getElem? h);simp at this
 | some j =>
  obtain⟨hj,hp,_⟩:=List.findIdx?_eq_some_iff_getElem.1 e;have h1:l[j]?=some x:=by rw[dH hj,beq_iff_eq.1 hp]
  have:j=k:=(List.getElem?_inj hj hn).1 (h1.trans h.symm);subst this;rfl
end cZ
end Go.Proofs.YticmnfmijdgmbaaGreatDoor.aJ
namespace Go.Proofs.YticmnfmijdgmbaaGreatDoor
open aO (It ag aN aP ax)
open aJ (aZ top E0 F0 gu)
open aJ.cZ (Pl dm dJ places bi jD ni)
namespace wQ
def pO (p:Int):It:=if p<0 then(3,0)else(2,p)
def oC (G:GD)(l:List It)(us:List Nat)(z p:Int):Bool:=decide (0<=jD l (p,((ax G p).length:Int))) && gu (us.getD (jD l (p,((ax G p).length:Int))).toNat 0) z
def fO (G:GD)(l:List It)(us:List Nat)(z:Int)(j:Nat):List It:=(List.range j).flatMap fun q:Nat=>if oC G l us z ((q:Int)-1)=true then [pO ((q:Int)-1)]else []
theorem uU (G:GD)(l:List It)(us:List Nat)(z:Int)(j:Nat):fO G l us z (j+1)=fO G l us z j++(if oC G l us z ((j:Int)-1)=true then [pO ((j:Int)-1)]else []):=by
 unfold fO;rw[List.range_succ,List.flatMap_append];simp
theorem ui (G:GD)(l:List It)(us:List Nat)(z:Int):∀ j,(fO G l us z j).length<=j
 | 0=>bJ _
 | j+1=>by
  rw[uU,List.length_append];have:=ui G l us z j;split
  ·show _+1<=_;omega
  ·show _+0<=_;omega
theorem GI:∀ {a b:List Int},a.Pairwise (·<·)->b.Pairwise (·<·)->(∀ x,x∈a↔x∈b)->a=b
 | [],[],_,_,_=>rfl
 | [],y::b,_,_,h=>absurd ((h y).2 (by simp)) (by simp)
 | x::a,[],_,_,h=>absurd ((h x).1 (by simp)) (by simp)
 | x::a,y::b,ha,hb,h=>by
  obtain⟨ha1,ha2⟩:=List.pairwise_cons.1 ha;obtain⟨hb1,hb2⟩:=List.pairwise_cons.1 hb;have e:x=y:=by
   rcases List.mem_cons.1 ((h x).1 (by simp))with e | e
   ·exact e
   ·rcases List.mem_cons.1 ((h y).2 (by simp))with e2 | e2
    ·exact e2.symm
    ·have h1:=hb1 x e;have h2:=ha1 y e2;omega
  subst e;rw[GI ha2 hb2 fun z=>?_];constructor
  ·intro hz;rcases List.mem_cons.1 ((h z).1 (List.mem_cons_of_mem _ hz))with e | e
   ·have:=ha1 z hz;omega
   ·exact e
  ·intro hz;rcases List.mem_cons.1 ((h z).2 (List.mem_cons_of_mem _ hz))with e | e
   ·have:=hb1 z hz;omega
   ·exact e
section
variable {G:GD}{n:Nat}{D:Nat->Nat->List It}{A:Pl->Nat}
theorem IR {l:List It}{us:List Nat}(hl:aO.iQ l):(doneN G l us l.length).Pairwise (·<·):=by
 unfold doneN;rw[List.pairwise_map];refine List.Pairwise.imp_of_mem ?_ (List.Pairwise.filter _ List.pairwise_lt_range);intro i j hi hj hij;obtain⟨hi1,hi2⟩:=List.mem_filter.1 hi;obtain⟨hj1,hj2⟩:=List.mem_filter.1 hj;rw[List.mem_range]at hi1 hj1;have di:=of_decide_eq_true hi2;have dj:=of_decide_eq_true hj2;have h1:aO.Less l[i] l[j]:=List.pairwise_iff_getElem.1 hl i j hi1 hj1 hij;have ei:l.getD i (0,0)=l[i]:=by rw[dL,dH hi1];rfl
 have ej:l.getD j (0,0)=l[j]:=by rw[dL,dH hj1];rfl
 rw[ei]at di ⊢;rw[ej]at dj ⊢;rcases h1 with h1 | ⟨h1,h2⟩
 ·exact h1
 ·exfalso;have e1:=di.2.2.2;have e2:=dj.2.2.2;rw[h1]at e1;omega
theorem EH {l:List It}(h:aO.iQ l):l.Nodup:=by
 refine List.Pairwise.imp ?_ h;intro a b hab e;subst e;exact aO.Less.irrefl hab
theorem Ld (z:Int):gu 0 z=false:=by
 unfold aJ.gu;simp
theorem uS (hO:aN G n){i:Nat}(hi:i<n)(nx:List (List Int))(k:Nat) :
  sU G nx (i:Int) k++fO G ((bi G n (E0 G) (F0 G)).C i) (((bi G n (E0 G) (F0 G)).C i).map fun x=>A (i,x)) (if k=G.terms.length then 63 else(k:Int)) (G.prods.length+1)=dE G nx (bi G n (E0 G) (F0 G)).C A i k:=by
 unfold dE jU;congr 1;generalize (if k=G.terms.length then(63:Int)else(k:Int))=z;obtain⟨l,hl⟩:=ai ((bi G n (E0 G) (F0 G)).C i);have hrise:aO.iQ l:=by
  rw[<-hl];exact(aO.eY G _).1
 have hnd:=EH hrise;have hmem:=fun p u=>sH (D:=fun _ _=>[]) (A:=A) hO hi (p:=p) (u:=u);rw[hl]at hmem ⊢;obtain⟨us,hus⟩:=ai ((l.map fun x=>A (i,x)));rw[hus]at hmem ⊢;have e1:(gV G l us).flatMap (one1 z)=(((gV G l us).filter fun q=>gu q.2 z).map (·.1)).map pO:=by
  induction gV G l us with
  | nil=>rfl
  | cons q L ih =>
   rw[List.flatMap_cons,ih,List.filter_cons];unfold one1 pO;by_cases h:gu q.2 z=true
   ·rw[if_pos h,if_pos h];by_cases h2:q.1<0<;>simp[h2]
   ·rw[if_neg h,if_neg h];rfl
 have e2:fO G l us z (G.prods.length+1)=(((List.range (G.prods.length+1)).map fun q:Nat=>(q:Int)-1).filter fun p=>oC G l us z p).map pO:=by
  unfold fO;induction List.range (G.prods.length+1)with
  | nil=>rfl
  | cons q L ih =>
   rw[List.flatMap_cons,ih,List.map_cons,List.filter_cons];by_cases h:oC G l us z ((q:Int)-1)=true
   ·rw[if_pos h,if_pos h];rfl
   ·rw[if_neg h,if_neg h];rfl
 rw[e1,e2];congr 1;have hfst:(gV G l us).map (·.1)=doneN G l us l.length:=by
  unfold gV;rw[List.map_map];exact List.map_id' _
 refine GI (List.Pairwise.filter _ ?_) ?_ fun p=>?_
 ·rw[List.pairwise_map];exact List.Pairwise.imp (fun h=>by omega) List.pairwise_lt_range
 ·have h1:=IR (G:=G) (us:=us) hrise;rw[<-hfst,List.pairwise_map]at h1;rw[List.pairwise_map];exact List.Pairwise.filter _ h1
 ·have hfind:(p,((ax G p).length:Int))∈l->∃ m:Nat,jD l (p,((ax G p).length:Int))=(m:Int)/\us.getD m 0=A (i,(p,((ax G p).length:Int))):=fun h=>by
   obtain⟨m,hm⟩:=List.mem_iff_getElem?.1 h;refine⟨m,ni hnd hm,?_⟩;rw[<-hus,dL,List.getElem?_map,hm];rfl
  have hfind2:0<=jD l (p,((ax G p).length:Int))->(p,((ax G p).length:Int))∈l:=fun h=>by
   unfold aJ.cZ.jD at h;split at h
   ·rename_i m hm;obtain⟨hj,hp,_⟩:=List.findIdx?_eq_some_iff_getElem.1 hm;rw[<-beq_iff_eq.1 hp];exact List.getElem_mem _
   ·omega
  rw[List.mem_filter,List.mem_map,List.mem_map];constructor
  ·rintro⟨⟨q,hq,rfl⟩,hb⟩;unfold oC at hb;rw[Bool.and_eq_true,decide_eq_true_iff]at hb;have hin:=hfind2 hb.1;obtain⟨m,hm,hu⟩:=hfind hin;rw[hm,Int.toNat_natCast,hu]at hb;refine⟨(_,A (i,((q:Int)-1,((ax G ((q:Int)-1)).length:Int)))),List.mem_filter.2 ⟨(hmem _ _).2 ⟨⟨hi,?_⟩,rfl,fun e=>?_⟩,hb.2⟩,rfl⟩
   ·rw[hl];exact hin
   ·have h2:=hb.2;rw[e,Ld]at h2;cases h2
  ·rintro⟨q,hq,rfl⟩;obtain⟨h1,h2⟩:=List.mem_filter.1 hq;obtain⟨⟨_,h3⟩,h4,h5⟩:=(hmem q.1 q.2).1 h1;rw[hl]at h3;have hd:=yz (show q.1∈doneN G l us l.length by rw[<-hfst];exact List.mem_map.2 ⟨q,h1,rfl⟩);refine⟨⟨(q.1+1).toNat,List.mem_range.2 (by omega),by omega⟩,?_⟩;obtain⟨m,hm,hu⟩:=hfind h3;unfold oC;rw[hm,Int.toNat_natCast,hu,h4,h2,Bool.and_true,decide_eq_true_iff];omega
end
end wQ
open Go Go.RowKit Go.Lib
open aO (It)
open aJ (u64 aZ top fM)
open aJ.cZ (Pl iI xA FX FZ FY jD)
def bI (GB:List Nat)(C:Nat->List It)(A:Pl->Nat)(n:Nat):List Item:=(List.range n).map fun i=>ae (GB.getD i 0) (.cells (aJ.sets (xA C A i)) 69 (0,0))
theorem yH {GB:List Nat}{C:Nat->List It}{A:Pl->Nat}{n i:Nat}(hi:i<n):(bI GB C A n)[i]?=some (ae (GB.getD i 0) (.cells (aJ.sets (xA C A i)) 69 (0,0))):=by
 unfold bI;rw[List.getElem?_map,List.getElem?_range hi];rfl
theorem tC (GB:List Nat)(C:Nat->List It)(A:Pl->Nat)(n:Nat):(bI GB C A n).length=n:=by unfold bI;simp
theorem bI_set {GB:List Nat}{C:Nat->List It}{A:Pl->Nat}{n i k:Nat}{x:It}(v:Nat)(hi:i<n)(hn:(C i).Nodup)(hx:(C i)[k]?=some x) :
  (bI GB C A n).set i (ae (GB.getD i 0) (.cells ((aJ.sets (xA C A i)).setIfInBounds k (u64 (A (i,x) ||| v))) 69 (0,0)))=bI GB C (iI A (i,x) v) n:=by
 refine List.ext_getElem? fun j=>?_;by_cases hj:j<n
 ·rw[yH hj];by_cases e:i=j
  ·subst e;rw[List.getElem?_set_self (by rw[tC];exact hi),FX hn hx];unfold aJ.sets;rw[List.map_set,List.setIfInBounds_toArray]
  ·rw[List.getElem?_set_ne e,yH hj,FZ (fun e2=>e e2.symm)]
 ·rw[List.getElem?_eq_none (by rw[List.length_set,tC];omega),List.getElem?_eq_none (by rw[tC];omega)]
section
variable {B n i k:Nat}{W w:World}{l1 l2:List Item}{GB:List Nat}{C:Nat->List It}{A:Pl->Nat}{x:It}
theorem zS (h:az B W w (l1++(bI GB C A n++l2)))(hi:i<n):w.heap[GB.getD i 0]?=some (.cells (aJ.sets (xA C A i)) 69 (0,0)):=
 au h (k:=i) (y:=ae (GB.getD i 0) (.cells (aJ.sets (xA C A i)) 69 (0,0))) (by rw[List.getElem?_append_left (by rw[tC];exact hi)];exact yH hi)
theorem BB (h:az B W w (l1++(bI GB C A n++l2)))(v:Nat)(hi:i<n)(hn:(C i).Nodup)(hx:(C i)[k]?=some x) :
  az B W (w.setCell ⟨GB.getD i 0,k,none⟩ (u64 (A (i,x) ||| v))) (l1++(bI GB C (iI A (i,x) v) n++l2)):=by
 have:=aT (k:=i) (i:=k) (v:=u64 (A (i,x) ||| v)) h (by rw[List.getElem?_append_left (by rw[tC];exact hi)];exact yH hi);rw[List.set_append_left _ _ (by rw[tC];exact hi),bI_set v hi hn hx]at this;exact this
theorem iD (h:az B W w (l1++(bI GB C A n++l2)))(hi:i<n)(hx:(C i)[k]?=some x):w.cell? ⟨GB.getD i 0,k,none⟩=some (u64 (A (i,x)))/\w.frozen? ⟨GB.getD i 0,k,none⟩=false:=by
 have h1:=zS h hi;refine⟨?_,?_⟩
 ·rw[aJ.mM h1 (by unfold xA;rw[List.length_map];exact(List.getElem?_eq_some_iff.1 hx).1),FY hx]
 ·exact bY h1 k
theorem Lm {l:List Item}(h:az B W w l){y:Item}(hy:y∈l):y.ok w:=by
 obtain⟨j,hj⟩:=List.mem_iff_getElem?.1 hy;exact h.ok j y hj
end
structure Ei (C:Nat->List It) (n:Nat) (F:List (Nat×List It)) (GB:List Nat) (LL:List (Value×Value)):Prop where
 len:LL.length=n
 at_:∀ i,i<n->∃ g c,LL[i]?=some (.slice (some ⟨g,0,none⟩) (C i).length c,.slice (some ⟨GB.getD i 0,0,none⟩) (C i).length (C i).length)/\(g,C i)∈F
theorem uT {B n i rb rf rc:Nat}{W w:World}{F:List (Nat×List It)}{GB:List Nat}{C:Nat->List It}{LL:List (Value×Value)}{r0:List Item}(h:az B W w (aA B 2 (.slice (some ⟨rb,rf,none⟩) n rc) n (rcells LL)::dY F::r0))(hR:Ei C n F GB LL)(hi:i<n) :
  ∃ g c,w.cell? ⟨rb,rf+i*2,none⟩=some (.slice (some ⟨g,0,none⟩) (C i).length c)/\w.cell? ⟨rb,rf+i*2+1,none⟩=some (.slice (some ⟨GB.getD i 0,0,none⟩) (C i).length (C i).length)/\je w g (C i):=by
 obtain⟨g,c,h1,h2⟩:=hR.at_ i hi;have hq:aI w B 2 (.slice (some ⟨rb,rf,none⟩) n rc) n (rcells LL):=h.ok 0 _ rfl;have hf:(dY F).ok w:=h.ok 1 _ rfl;obtain⟨hl,⟨e,_⟩ | ⟨g',off,cap,e,_,_,_,_,h3,_⟩⟩:=hq
 ·cases e
 ·injection e with e1 e2 e3;injection e1 with e1;injection e1 with e1 e4;subst e1;subst e4;obtain⟨q0,q1⟩:=jg h1;exact⟨g,c,h3 _ _ q0,by have:=h3 _ _ q1;rw[<-Nat.add_assoc]at this;exact this,hf _ h2⟩
theorem Kw {S:It}{ker:List It}{i:Nat}(h:∀ j,j<i->ker[j]?≠some S)(hi:ker[i]?=some S):ker.idxOf? S=some i:=by
 obtain⟨hl,he⟩:=List.getElem?_eq_some_iff.1 hi;unfold List.idxOf?;refine List.findIdx?_eq_some_iff_getElem.2 ⟨hl,by rw[he];exact beq_self_eq_true _,fun j hj=>?_⟩;intro hb;have:=beq_iff_eq.1 hb;exact h j hj (by rw[dH (by omega),this])
theorem oN {w:World}{v:Value}{l:List It}(x:It)(h:aS w v l)(hl:l.length<=100000):Calls Tryz.prog 48 #[v,mg x] w fun e w'=>e=.returned (.int .i64 (jD l x))/\aj w w':=by
 obtain⟨xp,xd⟩:=x;obtain⟨o,c,rfl,hln,hix⟩:=h;obtain⟨N,hN⟩:=ai (l.length);have HN:=hid hN;have HIX:=hid hix;obtain⟨fv,hfv⟩:=ai (jD l (xp,xd));have HFV:=hid hfv;rw[hfv];rw[hN]at hl ⊢;obtain⟨W1,e1⟩:=ai (w.alloc (.cells #[.int .i64 xp,.int .i64 xd] 110));have hb1:aj w W1:=dM e1;have n1:W1.heap[w.heap.size]?=some (.cells #[.int .i64 xp,.int .i64 xd] 110 (0,0)):=dO e1;have HB1:=hid hb1;have HN1:=hid n1;clear hix hN hln hb1 n1 hfv;unfold mg;go_enter Tryz.func48,Tryz.ntmps48;go_wp2_with fail;clear e1
 go_loopw [5] (fun t5 wr=>∃ k:Nat,k<=N/\t5=.int .i64 (k:Int)/\(∀ (j:Nat) y,j<k->l[j]?=some y->y≠(xp,xd))/\Hid (aj W1 wr)) (fun t5 _=>N-(RowKit.intOf t5).toNat)
 case atStart=>exact⟨0,Nat.zero_le _,rfl,fun j y hj=>absurd hj (Nat.not_lt_zero j),hid (eH _ _)⟩
 case round =>
  obtain⟨k,hkN,rfl,hno,HR⟩:=hrel;have HNO:=hid hno;have HRB:=hid (HB1.o.trans (HR.o.mono HB1.o.size));clear hno;by_cases hlt:k<N
  ·have j1:(k:Int)<(N:Int):=by omega
   have j0:(0:Int)<=(k:Int):=by omega
   obtain⟨⟨yp,yd⟩,hy⟩:∃ y,l[k]?=some y:=⟨_,dH (by rw[HN.o];exact hlt)⟩;obtain⟨ib,jf,rfl,hx2⟩:=HIX.o (by rw[HN.o];omega);have hxk:w.cell? ⟨ib,jf+k*2,none⟩=some (.int .i64 (l.getD k (0,0)).1)/\w.cell? ⟨ib,jf+k*2+1,none⟩=some (.int .i64 (l.getD k (0,0)).2):=hx2 k (by rw[HN.o];exact hlt);rw[aO.getD_get hy]at hxk;have Z0:=hid (show ∀ w',aj wr w'->ay w' ib (jf+k*2) (.int .i64 yp)from fun w' hC=>cell_below hC (cell_below HRB.o hxk.1));have Z1:=hid (show ∀ w',aj wr w'->ay w' ib (jf+k*2+1) (.int .i64 yd)from fun w' hC=>cell_below hC (cell_below HRB.o hxk.2));have Z2:=hid (show ∀ w',aj wr w'->ay w' w.heap.size 0 (.int .i64 xp)from fun w' hC=>cell_below hC (cell_below HR.o (ak HN1.o 0)));have Z3:=hid (show ∀ w',aj wr w'->ay w' w.heap.size 1 (.int .i64 xd)from fun w' hC=>cell_below hC (cell_below HR.o (ak HN1.o 1)));have HY:=hid hy;clear hx2 hxk hy;by_cases hyp:yp=xp
   case neg =>
    have HNE:=hid (show((yp,yd):It)≠(xp,xd)from fun e=>hyp (by injection e));go_wp2_with fail;refine ah (by kernel_rfl) (by kernel_rfl) ?_;iterate 6
     with_reducible refine BigFrame.wpQuiet_want (by kernel_rfl) (fun K hK=>?_)
     apply Exists.intro;refine⟨fun w' hC=>?_,hK _ ?_⟩
     ·have f0':=Z0.o w' hC;have f1':=Z1.o w' hC;have f2':=Z2.o w' hC;have f3':=Z3.o w' hC;unfold Oper.quietAt;go_simp
      first | with_reducible rfl | done
     clear hK K;try simp only[Act.put,bP,bQ,bK]
    refine wpQuiet_nil ?_;intro w9 hb9;have HF9:=fJ HR hb9;clear hb9;go_wp2_with fail;refine⟨⟨k+1,by omega,by go_num,fun j y hj hjy=>?_,HF9⟩,?_⟩
    ·rcases Nat.lt_or_ge j k with e | e
     ·exact HNO.o j y e hjy
     ·obtain rfl:j=k:=by omega
      rw[HY.o]at hjy;obtain rfl:=Option.some.inj hjy;exact HNE.o
    ·simp[RowKit.intOf];omega
   subst hyp;by_cases hyd:yd=xd
   case neg =>
    have HNE:=hid (show((yp,yd):It)≠(yp,xd)from fun e=>hyd (by injection e));go_wp2_with fail;refine ah (by kernel_rfl) (by kernel_rfl) ?_;iterate 6
     with_reducible refine BigFrame.wpQuiet_want (by kernel_rfl) (fun K hK=>?_)
     apply Exists.intro;refine⟨fun w' hC=>?_,hK _ ?_⟩
     ·have f0':=Z0.o w' hC;have f1':=Z1.o w' hC;have f2':=Z2.o w' hC;have f3':=Z3.o w' hC;unfold Oper.quietAt;go_simp
      first | with_reducible rfl | done
     clear hK K;try simp only[Act.put,bP,bQ,bK]
    refine wpQuiet_nil ?_;intro w9 hb9;have HF9:=fJ HR hb9;clear hb9;go_wp2_with fail;refine⟨⟨k+1,by omega,by go_num,fun j y hj hjy=>?_,HF9⟩,?_⟩
    ·rcases Nat.lt_or_ge j k with e | e
     ·exact HNO.o j y e hjy
     ·obtain rfl:j=k:=by omega
      rw[HY.o]at hjy;obtain rfl:=Option.some.inj hjy;exact HNE.o
    ·simp[RowKit.intOf];omega
   subst hyd;have hfk:fv=(k:Int):=by
    rw[<-HFV.o];unfold jD;have hk:l.idxOf? (yp,yd)=some k:=Kw (fun j hj e=>HNO.o j _ hj e rfl) HY.o;rw[hk]
   subst hfk;go_wp2_with fail;refine ah (by kernel_rfl) (by kernel_rfl) ?_;iterate 6
    with_reducible refine BigFrame.wpQuiet_want (by kernel_rfl) (fun K hK=>?_)
    apply Exists.intro;refine⟨fun w' hC=>?_,hK _ ?_⟩
    ·have f0':=Z0.o w' hC;have f1':=Z1.o w' hC;have f2':=Z2.o w' hC;have f3':=Z3.o w' hC;unfold Oper.quietAt;go_simp
     first | with_reducible rfl | done
    clear hK K;try simp only[Act.put,bP,bQ,bK]
   refine wpQuiet_nil ?_;intro w9 hb9;have HF9:=fJ HR hb9;clear hb9;go_wp2_with fail;go_ret;exact⟨rfl,HB1.o.trans (HF9.o.mono HB1.o.size)⟩
  ·have j1:¬ (k:Int)<(N:Int):=by omega
   have hfk:fv=-1:=by
    rw[<-HFV.o];unfold jD;cases e:l.idxOf? (xp,xd)with
    | none=>rfl
    | some j =>
     obtain⟨hj,hp,_⟩:=List.findIdx?_eq_some_iff_getElem.1 e;have h1:l[j]?=some (xp,xd):=by rw[dH hj,beq_iff_eq.1 hp]
     exact absurd rfl (HNO.o j _ (by rw[HN.o]at hj;omega) h1)
   subst hfk;go_wp2_with fail;go_ret;exact⟨rfl,HRB.o⟩
end Go.Proofs.YticmnfmijdgmbaaGreatDoor
namespace Go.Proofs.aO
open Go.Proofs.YticmnfmijdgmbaaGreatDoor (GD PD aB)
theorem iR.of {G:GD}{l c:List It}(h1:iQ c)(h2:∀ x∈c,rP G l x)(h3:∀ x∈l,bu G x=true->x∈c)(h4:∀ x∈c,∀ s,aY G x=some s->s<0->∀ p,p<G.prods.length->bg G p=-1-s->((p:Int),0)∈c):iR G l c:=
 ⟨h1,fun x=>⟨h2 x,fun hx=>by
  induction hx with
  | base x hx ht=>exact h3 x hx ht
  | more x s p hx hb hs hp he ih=>exact h4 x ih s hb hs p hp he⟩⟩
def exG:GD:=⟨[⟨#[97]⟩],[],[⟨#[83]⟩],[⟨⟨#[112]⟩,0,[0],0⟩],0⟩
end Go.Proofs.aO
namespace Go.Proofs.YticmnfmijdgmbaaGreatDoor
open Go Go.RowKit Go.Lib
open aO (It exG)
end Go.Proofs.YticmnfmijdgmbaaGreatDoor
namespace Go.Proofs.YticmnfmijdgmbaaGreatDoor.aJ
open aO (It exG)
namespace cZ
open aO (ax aY bg aP aX ag aN cO rP bu)
def cntW (l:List It):Nat:=(l.filter fun x=>decide (x.1=-1)).length
def iW (C:Nat->List It)(n:Nat):Nat:=((List.range n).map fun i=>cntW (C i)).sum
end cZ
end Go.Proofs.YticmnfmijdgmbaaGreatDoor.aJ
namespace Go.Proofs.YticmnfmijdgmbaaGreatDoor
open Go Go.RowKit Go.Lib
open aO (It exG aP ag aN)
open aJ (u64 aZ top E0 F0 fM)
open aJ.cZ (Pl dm dJ places bi)
theorem iy {B:Nat}{a w:World}(h:Below B a w)(hB:B<=w.heap.size)(o:Obj):Below B a (w.alloc o)/\B<=(w.alloc o).heap.size:=⟨h.alloc hB o,by simp;omega⟩
theorem jm {w:World}{o o':Obj}{g:Nat}(h:w.heap[g]?=some o):(w.alloc o').heap[g]?=some o:=(Below.heap_alloc w o' g (dZ h)).trans h
theorem yK.below {w w':World}{v:Value}{us:List Nat}(h:yK w v us)(hb:aj w w'):yK w' v us:=eU.mono h fun _ _ _ h=>cell_below hb h
end Go.Proofs.YticmnfmijdgmbaaGreatDoor
