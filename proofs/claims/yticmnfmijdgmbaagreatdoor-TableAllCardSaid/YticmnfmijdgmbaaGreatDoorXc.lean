import Derived.Deep.AppendSrc
import Derived.Deep.Upon
import Derived.DeepKeys4
import Derived.Test.YticmnfmijdgmbaaGreatDoorQHs
set_option linter.all false
namespace Go.Proofs.YticmnfmijdgmbaaGreatDoor.aJ
open aO (It)
namespace cZ
abbrev Pl:=Nat×It
abbrev Ask:=Pl->Nat->List (Pl×Nat)
def MQ (ask:Ask):Prop:=∀ p S S',fM S S'->∀ e∈ask p S,∃ v,(e.1,v)∈ask p S'/\fM e.2 v
def ClosedAt (ask:Ask)(A:Pl->Nat)(p:Pl):Prop:=∀ e∈ask p (A p),fM e.2 (A e.1)
def lg (ask:Ask)(P:List Pl)(A:Pl->Nat):Prop:=∀ p∈P,ClosedAt ask A p
structure dm (ask:Ask) (P:List Pl) (b0:Pl) (v0:Nat) (A:Pl->Nat):Prop where
 closed:lg ask P A
 start:fM v0 (A b0)
 least:∀ M:Pl->Nat,lg ask P M->fM v0 (M b0)->∀ q∈P,fM (A q) (M q)
 off:∀ q,q∉P->A q=0
 low:∀ q,A q<top
theorem dm.one {ask:Ask}{P:List Pl}{b0:Pl}{v0:Nat}{A B:Pl->Nat}(h:dm ask P b0 v0 A)(k:dm ask P b0 v0 B)(q:Pl):A q=B q:=by
 by_cases hq:q∈P
 ·exact jk (h.least B k.closed k.start q hq) (k.least A h.closed h.start q hq)
 ·rw[h.off q hq,k.off q hq]
def iI (A:Pl->Nat)(t:Pl)(v:Nat):Pl->Nat:=fun q=>if q=t then A t ||| v else A q
theorem ql (A:Pl->Nat)(t:Pl)(v:Nat)(q:Pl):fM (A q) (iI A t v q):=by
 unfold iI;split
 ·rename_i e;rw[e];exact jI _ _
 ·exact gB _
theorem kz (A:Pl->Nat)(t:Pl)(v:Nat):iI A t v t=A t ||| v:=if_pos rfl
theorem qm {A:Pl->Nat}{t q:Pl}{v:Nat}(h:q≠t):iI A t v q=A q:=if_neg h
def jQ (P:List Pl)(A:Pl->Nat):Nat:=(P.map fun q=>top-A q).sum
theorem room_le {P:List Pl}{A B:Pl->Nat}(h:∀ q,A q<=B q):jQ P B<=jQ P A:=by
 unfold jQ;induction P with
 | nil=>exact bJ _
 | cons a l ih =>
  rw[List.map_cons,List.map_cons,List.sum_cons,List.sum_cons];have:=h a;omega
theorem room_lt {P:List Pl}{A B:Pl->Nat}(h:∀ q,A q<=B q){t:Pl}(ht:t∈P)(hl:A t<B t)(hB:B t<top):jQ P B<jQ P A:=by
 induction P with
 | nil=>cases ht
 | cons a l ih =>
  have h1:jQ l B<=jQ l A:=room_le h;have h0:=h a;unfold jQ at *;rw[List.map_cons,List.map_cons,List.sum_cons,List.sum_cons];rcases List.mem_cons.1 ht with e | e
  ·subst e;omega
  ·have:=ih e;omega
theorem JG {P:List Pl}{A:Pl->Nat}{t:Pl}{v:Nat}(ht:t∈P)(hv:¬ fM v (A t))(hA:A t<top)(hv2:v<top):jQ P (iI A t v)<jQ P A:=by
 refine room_lt (fun q=>sub_le (ql A t v q)) ht ?_ (by rw[kz];exact oH hA hv2);rw[kz];have h1:=sub_le (jI (A t) v);rcases Nat.lt_or_ge (A t) (A t ||| v)with h | h
 ·exact h
 ·exact absurd (show fM v (A t)by have e:A t=A t ||| v:=Nat.le_antisymm h1 h;rw[e];exact fU _ _) hv
structure nI (ask:Ask) (P:List Pl) (b0:Pl) (v0:Nat) (A:Pl->Nat) (Q:List Pl):Prop where
 snd:∀ M:Pl->Nat,lg ask P M->fM v0 (M b0)->∀ q∈P,fM (A q) (M q)
 low:∀ q,A q<top
 inP:∀ q∈Q,q∈P
 off:∀ q,q∉P->A q=0
structure WQ (ask:Ask) (P:List Pl) (b0:Pl) (v0:Nat) (A:Pl->Nat) (Q:List Pl):Prop where
 base:nI ask P b0 v0 A Q
 done:∀ p∈P,p∉Q->ClosedAt ask A p
structure WS (ask:Ask) (P:List Pl) (b0:Pl) (v0:Nat) (A:Pl->Nat) (Q:List Pl) (x:Pl) (S k:Nat):Prop where
 base:nI ask P b0 v0 A Q
 inx:x∈P
 done:∀ p∈P,p∉Q->p≠x->ClosedAt ask A p
 own:x∈Q\/A x=S
 snS:∀ M:Pl->Nat,lg ask P M->fM v0 (M b0)->fM S (M x)
 met:∀ j,j<k->∀ e,(ask x S)[j]?=some e->fM e.2 (A e.1)
section
variable {ask:Ask}{P:List Pl}{b0:Pl}{v0:Nat}{A:Pl->Nat}{Q:List Pl}{x:Pl}{S k:Nat}
theorem WQ.init (ask:Ask)(P:List Pl)(b0:Pl)(v0:Nat)(Q:List Pl)(h1:∀ q∈Q,q∈P)(h2:∀ q∈P,q∈Q):WQ ask P b0 v0 (fun _=>0) Q:=
 ⟨⟨fun M _ _ q _=>qg _,fun _=>by decide,h1,fun _ _=>rfl⟩,fun p hp hn=>absurd (h2 p hp) hn⟩
theorem nI.add (h:nI ask P b0 v0 A Q){t:Pl}{v:Nat}(ht:t∈P)(hv:v<top)(hs:∀ M:Pl->Nat,lg ask P M->fM v0 (M b0)->fM v (M t)):nI ask P b0 v0 (iI A t v) (Q++[t]) where
 snd M hM h0 q hq:=by
  unfold iI;split
  ·rename_i e;subst e;exact uY (h.snd M hM h0 q hq) (hs M hM h0)
  ·exact h.snd M hM h0 q hq
 low q:=by
  unfold iI;split
  ·exact oH (h.low t) hv
  ·exact h.low q
 inP q hq:=by
  rcases List.mem_append.1 hq with e | e
  ·exact h.inP q e
  ·obtain rfl:q=t:=by simpa using e
   exact ht
 off q hq:=by
  rw[qm (fun e=>hq (by rw[e];exact ht))];exact h.off q hq
theorem ClosedAt.keep {p t:Pl}{v:Nat}(h:ClosedAt ask A p)(hp:p≠t):ClosedAt ask (iI A t v) p:=by
 intro e he;rw[qm hp]at he;exact dG (h e he) (ql A t v e.1)
theorem WQ.qM (h:WQ ask P b0 v0 A Q)(ht:b0∈P)(hv:v0<top):WQ ask P b0 v0 (iI A b0 v0) (Q++[b0]):=
 ⟨h.base.add ht hv (fun M _ h0=>h0),fun p hp hn=>(h.done p hp fun k=>hn (List.mem_append_left _ k)).keep fun e=>hn (List.mem_append_right _ (by simp[e]))⟩
theorem WQ.pop {p:Pl}(h:WQ ask P b0 v0 A (p::Q)):WS ask P b0 v0 A Q p (A p) 0 where
 base:=⟨h.base.snd,h.base.low,fun q hq=>h.base.inP q (List.mem_cons_of_mem _ hq),h.base.off⟩
 inx:=h.base.inP p List.mem_cons_self
 done q hq hn hne:=h.done q hq fun k=>by
  rcases List.mem_cons.1 k with e | e
  ·exact hne e
  ·exact hn e
 own:=.inr rfl
 snS M hM h0:=h.base.snd M hM h0 p (h.base.inP p List.mem_cons_self)
 met j hj:=absurd hj (Nat.not_lt_zero j)
theorem WS.skip (h:WS ask P b0 v0 A Q x S k){t:Pl}{v:Nat}(he:(ask x S)[k]?=some (t,v))(hs:fM v (A t)):WS ask P b0 v0 A Q x S (k+1):=
 ⟨h.base,h.inx,h.done,h.own,h.snS,fun j hj e hje=>by
  by_cases hk:j<k
  ·exact h.met j hk e hje
  ·obtain rfl:j=k:=by omega
   rw[he]at hje;obtain rfl:=Option.some.inj hje;exact hs⟩
theorem WS.add (h:WS ask P b0 v0 A Q x S k)(hm:MQ ask){t:Pl}{v:Nat}(he:(ask x S)[k]?=some (t,v))(ht:t∈P)(hv:v<top):WS ask P b0 v0 (iI A t v) (Q++[t]) x S (k+1) where
 base:=h.base.add ht hv fun M hM h0=>by
  obtain⟨v',h1,h2⟩:=hm x S (M x) (h.snS M hM h0) (t,v) (List.mem_of_getElem? he);exact dG h2 (hM x h.inx (t,v') h1)
 inx:=h.inx
 done p hp hn hne:=(h.done p hp (fun k=>hn (List.mem_append_left _ k)) hne).keep fun e=>hn (List.mem_append_right _ (by simp[e]))
 own:=by
  by_cases e:x=t
  ·exact .inl (List.mem_append_right _ (by simp[e]))
  ·rcases h.own with h1 | h1
   ·exact .inl (List.mem_append_left _ h1)
   ·exact .inr (by rw[qm e];exact h1)
 snS:=h.snS
 met j hj e hje:=by
  by_cases hk:j<k
  ·exact dG (h.met j hk e hje) (ql A t v e.1)
  ·obtain rfl:j=k:=by omega
   rw[he]at hje;obtain rfl:=Option.some.inj hje;rw[kz];exact fU _ _
theorem WS.DW (h:WS ask P b0 v0 A Q x S k)(hk:(ask x S).length<=k):WQ ask P b0 v0 A Q where
 base:=h.base
 done p hp hn:=by
  by_cases e:p=x
  ·subst e;rcases h.own with h1 | h1
   ·exact absurd h1 hn
   ·intro e he;rw[h1]at he;obtain⟨j,hj⟩:=List.mem_iff_getElem?.1 he;exact h.met j (by have:=(List.getElem?_eq_some_iff.1 hj).1;omega) e hj
  ·exact h.done p hp hn e
theorem WQ.DW (h:WQ ask P b0 v0 A [])(h0:fM v0 (A b0)):dm ask P b0 v0 A:=
 ⟨fun p hp=>h.done p hp (by simp),h0,h.base.snd,h.base.off,h.base.low⟩
end
end cZ
namespace cZ
open aO (ax aY bg)
def dV (G:GD)(x:It):List Int:=(ax G x.1).drop (x.2.toNat+1)
def pV (E:List Bool)(n:Nat):List Int->Bool
 | []=>true
 | s::l=>if 0<=s then false else if (n:Int)<=-1-s then false else E.getD (-1-s).toNat false && pV E n l
theorem iO (nt:Nat)(E:List Bool)(F:List Nat):∀ (l:List Int) (b:Nat),ofRow nt E F l b=ofRow nt E F l 0 ||| (if pV E F.length l=true then b else 0)
 | [],b=>by unfold ofRow pV;simp
 | s::l,b=>by
  have ih:=iO nt E F l b;unfold ofRow pV;by_cases h1:0<=s
  ·rw[if_pos h1,if_pos h1,if_pos h1];simp
  rw[if_neg h1,if_neg h1,if_neg h1];by_cases h2:(F.length:Int)<=-1-s
  ·rw[if_pos h2,if_pos h2,if_pos h2];simp
  rw[if_neg h2,if_neg h2,if_neg h2];cases h3:E.getD (-1-s).toNat false
  ·simp
  ·rw[if_pos rfl,if_pos rfl,ih,Bool.true_and,Nat.or_assoc]
def NoEnd (F:List Nat):Prop:=∀ x∈F,x.testBit 63=false
theorem nS {nt:Nat}{E:List Bool}{F:List Nat}(hF:NoEnd F)(hn:nt<=60):∀ l:List Int,(ofRow nt E F l 0).testBit 63=false
 | []=>by unfold ofRow;simp
 | s::l=>by
  have ih:=nS (E:=E) hF hn l;unfold ofRow;by_cases h1:0<=s
  ·rw[if_pos h1];by_cases h2:s<(nt:Int)
   ·rw[if_pos h2,dN];have:¬ (63:Int)=s:=by omega
    simp[this]
   ·rw[if_neg h2];simp
  rw[if_neg h1];by_cases h2:(F.length:Int)<=-1-s
  ·rw[if_pos h2];simp
  rw[if_neg h2,Nat.testBit_or];have h3:(F.getD (-1-s).toNat 0).testBit 63=false:=by
   rw[dL,dH (by omega)];exact hF _ (List.getElem_mem _)
  rw[h3,Bool.false_or];split
  ·exact ih
  ·simp
theorem xe:(aZ 63).testBit 63=true:=by decide
theorem CU {nt:Nat}{E:List Bool}{F:List Nat}(hF:NoEnd F)(hn:nt<=60)(l:List Int):(ofRow nt E F l (aZ 63)).testBit 63=pV E F.length l:=by
 rw[iO,Nat.testBit_or,nS hF hn,Bool.false_or];cases pV E F.length l
 ·simp
 ·rw[if_pos rfl];exact xe
theorem xM {nt:Nat}{E:List Bool}{F:List Nat}(hF:NoEnd F)(hn:nt<=60)(l:List Int):qB (ofRow nt E F l (aZ 63)) (aZ 63)=ofRow nt E F l 0:=by
 refine Nat.eq_of_testBit_eq fun i=>?_;rw[kX,iO nt E F l (aZ 63),Nat.testBit_or];by_cases h:i=63
 ·subst h;rw[xe,nS hF hn];simp
 ·have h2:(aZ 63).testBit i=false:=by
   rw[dN];have:¬ (i:Int)=63:=by omega
   simp[this]
  rw[h2];have h3:(if pV E F.length l=true then aZ 63 else 0).testBit i=false:=by
   split
   ·exact h2
   ·simp
  rw[h3];simp
structure Cx where
 G:GD
 E:List Bool
 F:List Nat
 C:Nat->List It
 to:Nat->Int->Nat
def yw (c:Cx)(x:It):Nat:=ofRow c.G.terms.length c.E c.F (dV c.G x) 0
def xX (c:Cx)(x:It):Bool:=pV c.E c.F.length (dV c.G x)
def iP (c:Cx)(p:Pl)(S:Nat)(s:Int)(m:Nat):List (Pl×Nat):=
 ((List.range m).filter fun q=>decide (bg c.G q=-1-s)).map fun(q:Nat)=>((p.1,((q:Int),(0:Int))),yw c p.2 ||| (if xX c p.2=true then S else 0))
def dJ (c:Cx):Ask:=fun p S=>match aY c.G p.2 with
 | none=>[]
 | some s=>((c.to p.1 s,(p.2.1,p.2.2+1)),S)::(if s<0 then iP c p S s c.G.prods.length else [])
theorem kG (c:Cx)(p:Pl)(S:Nat)(s:Int)(m:Nat):iP c p S s (m+1)=iP c p S s m++(if bg c.G m=-1-s then [((p.1,((m:Int),(0:Int))),yw c p.2 ||| (if xX c p.2=true then S else 0))]else []):=by
 unfold iP;rw[List.range_succ,List.filter_append,List.map_append];by_cases h:bg c.G m=-1-s<;>simp[h]
theorem Ij (c:Cx)(p:Pl)(S:Nat)(s:Int){m n:Nat}(h:m<=n):iP c p S s m <+: iP c p S s n:=by
 induction n with
 | zero => obtain rfl : m = 0 := by omega
           exact List.prefix_refl _
 | succ n ih =>
  rcases Nat.eq_or_lt_of_le h with e | e
  ·rw[e];exact List.prefix_refl _
  ·rw[kG];exact(ih (by omega)).trans (List.prefix_append _ _)
theorem jo {c:Cx}{p:Pl}{S:Nat}(h:aY c.G p.2=none):dJ c p S=[]:=by unfold dJ;rw[h]
theorem fE {c:Cx}{p:Pl}{S:Nat}{s:Int}(h:aY c.G p.2=some s):dJ c p S=((c.to p.1 s,(p.2.1,p.2.2+1)),S)::(if s<0 then iP c p S s c.G.prods.length else []):=by unfold dJ;rw[h]
theorem LX {c:Cx}{p:Pl}{S:Nat}{s:Int}{m:Nat}(h:aY c.G p.2=some s)(hs:s<0)(hm:m<c.G.prods.length)(he:bg c.G m=-1-s) :
  (dJ c p S)[(iP c p S s m).length+1]?=some ((p.1,((m:Int),(0:Int))),yw c p.2 ||| (if xX c p.2=true then S else 0)):=by
 rw[fE h,if_pos hs,List.getElem?_cons_succ];obtain⟨t,ht⟩:=Ij c p S s (show m+1<=c.G.prods.length by omega);rw[<-ht,kG,if_pos he,List.append_assoc,List.getElem?_append_right (bJ _),Nat.sub_self];rfl
theorem I7 {c:Cx}{p:Pl}{S:Nat}{s:Int}(h:aY c.G p.2=some s):(dJ c p S)[0]?=some ((c.to p.1 s,(p.2.1,p.2.2+1)),S):=by rw[fE h];rfl
theorem G8 {c:Cx}{p:Pl}{S:Nat}{s:Int}(h:aY c.G p.2=some s):(dJ c p S).length=1+(if s<0 then(iP c p S s c.G.prods.length).length else 0):=by
 rw[fE h];split
 ·rw[List.length_cons];omega
 ·simp
theorem iK {c:Cx}{p:Pl}{S:Nat}{s:Int}{m:Nat}{e:Pl×Nat} : e∈iP c p S s m↔∃ q:Nat,q<m/\bg c.G q=-1-s/\e=((p.1,((q:Int),(0:Int))),yw c p.2 ||| (if xX c p.2=true then S else 0)):=by
 unfold iP;rw[List.mem_map];constructor
 ·rintro⟨q,hq,rfl⟩;rw[List.mem_filter,List.mem_range]at hq;exact⟨q,hq.1,of_decide_eq_true hq.2,rfl⟩
 ·rintro⟨q,h1,h2,rfl⟩;exact⟨q,by rw[List.mem_filter,List.mem_range];exact⟨h1,eP h2⟩,rfl⟩
theorem I8 (c:Cx):MQ (dJ c):=by
 intro p S S' h e he;cases hb:aY c.G p.2 with
 | none=>rw[jo hb]at he;cases he
 | some s =>
  rw[fE hb]at he ⊢;rcases List.mem_cons.1 he with e1 | e1
  ·subst e1;exact⟨S',List.mem_cons_self,h⟩
  ·by_cases hs:s<0
   ·rw[if_pos hs]at e1 ⊢;obtain⟨q,h1,h2,rfl⟩:=iK.1 e1;refine⟨yw c p.2 ||| (if xX c p.2=true then S' else 0),List.mem_cons_of_mem _ (iK.2 ⟨q,h1,h2,rfl⟩),?_⟩;refine uY (jI _ _) ?_;refine dG ?_ (fU _ _);split
    ·exact h
    ·exact gB _
   ·rw[if_neg hs]at e1;cases e1
def places (c:Cx)(n:Nat):List Pl:=(List.range n).flatMap fun i=>(c.C i).map fun x=>(i,x)
theorem mem_places {c:Cx}{n i:Nat}{x:It} : (i,x)∈places c n↔i<n/\x∈c.C i:=by
 unfold places;rw[List.mem_flatMap];constructor
 ·rintro⟨j,hj,hx⟩;obtain⟨y,hy,e⟩:=List.mem_map.1 hx;injection e with e1 e2;subst e1 e2;exact⟨List.mem_range.1 hj,hy⟩
 ·rintro⟨h1,h2⟩;exact⟨i,List.mem_range.2 h1,List.mem_map.2 ⟨x,h2,rfl⟩⟩
structure Eo (c:Cx) (n:Nat):Prop where
 lL:∀ i x s,i<n->x∈c.C i->aO.aY c.G x=some s->c.to i s<n/\(x.1,x.2+1)∈c.C (c.to i s)
 more:∀ i x s (q:Nat),i<n->x∈c.C i->aO.aY c.G x=some s->s<0->q<c.G.prods.length->bg c.G q=-1-s->((q:Int),(0:Int))∈c.C i
 low:∀ y∈c.F,y<top
theorem Eo.LW {c:Cx}{n:Nat}(h:Eo c n){p:Pl}(hp:p∈places c n){S:Nat}(hS:S<top):∀ e∈dJ c p S,e.1∈places c n/\e.2<top:=by
 obtain⟨i,x⟩:=p;obtain⟨h1,h2⟩:=mem_places.1 hp;intro e he;cases hb:aO.aY c.G x with
 | none=>rw[jo hb]at he;cases he
 | some s =>
  rw[fE hb]at he;rcases List.mem_cons.1 he with e1 | e1
  ·subst e1;exact⟨mem_places.2 (h.lL i x s h1 h2 hb),hS⟩
  ·by_cases hs:s<0
   ·rw[if_pos hs]at e1;obtain⟨q,h3,h4,rfl⟩:=iK.1 e1;refine⟨mem_places.2 ⟨h1,h.more i x s q h1 h2 hb hs h3 h4⟩,oH (iJ _ _ h.low _ (by decide)) ?_⟩;split
    ·exact hS
    ·decide
   ·rw[if_neg hs]at e1;cases e1
theorem dm.lL {c:Cx}{n:Nat}{b0:Pl}{v0:Nat}{A:Pl->Nat}(h:dm (dJ c) (places c n) b0 v0 A){i:Nat}{x:It}{s:Int}(hi:i<n)(hx:x∈c.C i)(hb:aO.aY c.G x=some s):fM (A (i,x)) (A (c.to i s,(x.1,x.2+1))):=
 h.closed (i,x) (mem_places.2 ⟨hi,hx⟩) ((c.to i s,(x.1,x.2+1)),A (i,x)) (by rw[fE hb];exact List.mem_cons_self)
theorem dm.more {c:Cx}{n:Nat}{b0:Pl}{v0:Nat}{A:Pl->Nat}(h:dm (dJ c) (places c n) b0 v0 A){i q:Nat}{x:It}{s:Int}(hi:i<n)(hx:x∈c.C i)(hb:aO.aY c.G x=some s)(hs:s<0)(hq:q<c.G.prods.length)(he:bg c.G q=-1-s) :
  fM (ofRow c.G.terms.length c.E c.F (dV c.G x) (A (i,x))) (A (i,((q:Int),0))):=by
 rw[iO];exact h.closed (i,x) (mem_places.2 ⟨hi,hx⟩) ((i,((q:Int),0)),_) (by rw[fE hb,if_pos hs];exact List.mem_cons_of_mem _ (iK.2 ⟨q,hq,he,rfl⟩))
end cZ
namespace cZ
open aO (ax aY bg aP aX ag aN cO rP bu)
def Ag (G:GD):Prop:=∀ x s,aY G x=some s->∃ k,ig G s=some k/\(cO G)[k]?=some s
noncomputable def bi (G:GD) (n:Nat) (E:List Bool) (F:List Nat):Cx:=⟨G,E,F,fun i=>aP G ((ag G n).ker.getD i []),fun i s=>(ng G (ag G n).nx i s).toNat⟩
section
variable {G:GD}{n:Nat}{E:List Bool}{F:List Nat}
theorem iV {i:Nat}{x:It} : x∈(bi G n E F).C i↔rP G ((ag G n).ker.getD i []) x:=(aO.eY G _).2 x
theorem jS (hb:aN G n)(hS:Ag G){i:Nat}{x:It}{s:Int}(hi:i<n)(hx:x∈(bi G n E F).C i)(hbx:aY G x=some s) :
  ∃ q:Nat,ng G (ag G n).nx i s=(q:Int)/\(bi G n E F).to i s=q/\0<q/\q<n/\(ag G n).ker[q]?=some (aX G ((bi G n E F).C i) s):=by
 obtain⟨k,hk,hs⟩:=hS x s hbx;obtain⟨hI,ha,hl⟩:=hb.inv;obtain⟨R,v,h1,h2,_⟩:=hI.num i (by omega) k s hs;have hg:=qG hk h1 h2;rcases hI.gY (by omega) hs h1 h2 with⟨_,e⟩ | ⟨q,e1,e2,e3,e4⟩
 ·have:(x.1,x.2+1)∈aX G (aP G ((ag G n).ker.getD i [])) s:=aO.iU.2 ⟨x,hx,hbx,rfl⟩;rw[e]at this;cases this
 ·refine⟨q,by rw[hg,e1],?_,e2,by omega,e4⟩;show(ng G (ag G n).nx i s).toNat=q;rw[hg,e1];rfl
theorem oZ {x:It}{s:Int}(h:aY G x=some s):bu G (x.1,x.2+1)=true:=by
 have h1:=aO.bW.1 (aO.fA h);unfold aO.aY at h;rw[if_pos (aO.fA (by unfold aO.aY;exact h))]at h;have h2:=(List.getElem?_eq_some_iff.1 h).1;have h3:=h1.2.2.1;have h4:0<=x.2+1:=by omega
 have h5:x.2+1<=((aO.ax G x.1).length:Int):=by omega
 exact aO.bW.2 ⟨h1.1,h1.2.1,h4,h5⟩
theorem zY (hb:aN G n)(hS:Ag G)(hF:∀ y∈F,y<top):Eo (bi G n E F) n where
 lL i x s hi hx hbx:=by
  obtain⟨q,_,e1,_,e3,e4⟩:=jS hb hS hi hx hbx;rw[e1];refine⟨e3,iV.2 (.base _ ?_ (oZ hbx))⟩;rw[aO.getD_get e4];exact aO.iU.2 ⟨x,hx,hbx,rfl⟩
 more i x s q hi hx hbx hs hq he:=iV.2 (.more x s q (iV.1 hx) hbx hs hq he)
 low:=hF
theorem qj (hb:aN G n){i:Nat}(hi:i<n)(h:((-1:Int),(0:Int))∈(bi G n E F).C i):i=0:=by
 have h1:rP G ((ag G n).ker.getD i []) ((-1:Int),(0:Int)):=iV.1 h;generalize hz:((-1:Int),(0:Int))=z at h1;cases h1 with
 | more x s p _ _ _ _ _=>injection hz with h3;omega
 | base _ h2 _ =>
  subst hz;obtain⟨hI,ha,hl⟩:=hb.inv;rcases Nat.eq_zero_or_pos i with e | e
  ·exact e
  ·obtain⟨j,k,R,a1,a2,a3,a4,a5⟩:=hI.come i e (by omega);obtain⟨s,hs⟩:∃ s,(cO G)[k]?=some s:=⟨_,dH a5⟩;rcases hI.gY a1 hs a3 a4 with⟨e1,_⟩ | ⟨q,e1,_,_,e4⟩
   ·omega
   ·obtain rfl:i=q:=by omega
    rw[aO.getD_get e4]at h2;have:=(aO.step_dot h2).1;omega
theorem Au (hb:aN G n){i:Nat}(hi:i<n)(h:((-1:Int),(1:Int))∈(bi G n E F).C i):(ag G n).ker[i]?=some (aX G ((bi G n E F).C 0) (-1-G.start)):=by
 have h1:rP G ((ag G n).ker.getD i []) ((-1:Int),(1:Int)):=iV.1 h;generalize hz:((-1:Int),(1:Int))=z at h1;cases h1 with
 | more x s p _ _ _ _ _=>injection hz with h3;omega
 | base _ h2 _ =>
  subst hz;obtain⟨hI,ha,hl⟩:=hb.inv;rcases Nat.eq_zero_or_pos i with e | e
  ·subst e;rw[aO.getD_get hI.first]at h2;simp at h2
  ·obtain⟨j,k,R,a1,a2,a3,a4,a5⟩:=hI.come i e (by omega);obtain⟨s,hs⟩:∃ s,(cO G)[k]?=some s:=⟨_,dH a5⟩;rcases hI.gY a1 hs a3 a4 with⟨e1,_⟩ | ⟨q,e1,_,_,e4⟩
   ·omega
   ·obtain rfl:i=q:=by omega
    rw[aO.getD_get e4]at h2;obtain⟨x,hx,hbx,hxe⟩:=aO.iU.1 h2;injection hxe with hx1 hx2;have hxx:x=((-1:Int),(0:Int)):=Prod.ext hx1.symm (by show x.2=0;omega);subst hxx;obtain rfl:=qj (E:=E) (F:=F) hb (by omega) hx;have hs2:s=-1-G.start:=by
     unfold aO.aY at hbx;rw[if_pos (aO.fA (by unfold aO.aY;exact hbx))]at hbx;have:(aO.ax G (-1))[0]?=some s:=hbx;unfold aO.ax at this;simpa using this.symm
    rw[<-hs2];exact e4
theorem Jr:bu G ((-1:Int),(0:Int))=true:=aO.bW.2 ⟨Int.le_refl _,by show(-1:Int)<_;omega,Int.le_refl _,Int.natCast_nonneg _⟩
theorem jC (hb:aN G n):((-1:Int),(0:Int))∈(bi G n E F).C 0:=iV.2 (.base _ (by rw[aO.getD_get hb.inv.1.first];exact List.mem_singleton.2 rfl) Jr)
theorem beh0:aY G ((-1:Int),(0:Int))=some (-1-G.start):=by
 unfold aO.aY;rw[if_pos Jr];rfl
theorem uk (hb:aN G n):0<n:=by
 have:=(List.getElem?_eq_some_iff.1 hb.inv.1.first).1;have:=hb.inv.2.2;omega
theorem Ii (hb:aN G n)(hS:Ag G){i:Nat}(hi:i<n):((-1:Int),(1:Int))∈(bi G n E F).C i↔i=(bi G n E F).to 0 (-1-G.start):=by
 obtain⟨q,_,e1,_,e3,e4⟩:=jS (E:=E) (F:=F) hb hS (uk hb) (jC hb) beh0;rw[e1];constructor
 ·intro h;have h1:=Au hb hi h;exact(List.getElem?_inj (by rw[hb.inv.2.2];exact hi) hb.inv.1.kers.nd).1 (h1.trans e4.symm)
 ·rintro rfl;exact iV.2 (.base _ (by rw[aO.getD_get e4];exact aO.iU.2 ⟨_,jC hb,beh0,rfl⟩) (oZ beh0))
theorem Hu {x:It}(h:bu G x=true)(hx:x.1=-1):x=(-1,0)\/x=(-1,1):=by
 obtain⟨_,_,h3,h4⟩:=aO.bW.1 h;rw[hx]at h4;have:(aO.ax G (-1)).length=1:=rfl;rcases(show x.2=0\/x.2=1 by omega)with e | e
 ·exact .inl (Prod.ext hx e)
 ·exact .inr (Prod.ext hx e)
theorem Js {v:Nat}(h:v<top):fM v (top-1):=by
 refine eG.2 fun i hi=>?_;have:i<64:=by
  rcases Nat.lt_or_ge i 64 with h1 | h1
  ·exact h1
  ·rw[kC h h1]at hi;cases hi
 rw[show top-1=2 ^ 64-1 by rfl,Nat.testBit_two_pow_sub_one];exact eP this
theorem BU (hb:aN G n)(hS:Ag G)(hF:∀ y∈F,y<top){A:Pl->Nat}(h:dm (dJ (bi G n E F)) (places (bi G n E F) n) (0,(-1,0)) (aZ 63) A){i:Nat}{x:It}(hi:i<n)(hx:x∈(bi G n E F).C i)(h1:x.1=-1):A (i,x)=aZ 63:=by
 have up:fM (A (i,x)) (aZ 63):=by
  have hm:=h.least (fun q=>if q.2.1=-1 then aZ 63 else top-1) (fun p hp e he=>?_) (by rw[if_pos rfl];exact gB _) (i,x) (mem_places.2 ⟨hi,hx⟩)
  ·simpa[h1] using hm
  ·obtain⟨j,y⟩:=p;obtain⟨p1,p2⟩:=mem_places.1 hp;have hlow:=((zY hb hS hF).LW hp (S:=(if y.1=-1 then aZ 63 else top-1)) (by split<;>decide) e he).2;cases hbe:aO.aY G y with
   | none=>rw[jo hbe]at he;cases he
   | some s =>
    rw[fE hbe]at he;rcases List.mem_cons.1 he with e1 | e1
    ·subst e1;exact gB _
    ·by_cases hs:s<0
     ·rw[if_pos hs]at e1;obtain⟨q,h3,h4,rfl⟩:=iK.1 e1;have hne:¬ ((q:Int)=-1):=by omega
      exact Eq.subst (motive:=fun z=>fM _ z) (if_neg hne).symm (Js hlow)
     ·rw[if_neg hs]at e1;cases e1
 have lo0:fM (aZ 63) (A (0,(-1,0))):=h.start;refine jk up ?_;rcases Hu (iV.1 hx).there h1 with e | e
 ·subst e;obtain rfl:=qj hb hi hx;exact lo0
 ·subst e;have he:=(Ii hb hS hi).1 hx;have hg:=h.lL (s:=-1-G.start) (uk hb) (jC hb) (show aY G ((-1:Int),(0:Int))=some (-1-G.start)from beh0);rw[<-he]at hg;exact dG lo0 hg
end
end cZ
end Go.Proofs.YticmnfmijdgmbaaGreatDoor.aJ
namespace Go.Proofs.YticmnfmijdgmbaaGreatDoor
open Go Go.RowKit Go.Lib
def aI (w:World)(B sz:Nat)(v:Value)(n:Nat)(xs:List Value):Prop:=
 xs.length=n*sz/\((v=.slice none 0 0/\n=0)\/∃ g off cap,v=.slice (some ⟨g,off,none⟩) n cap/\B<=g/\g<w.heap.size/\n<=cap/\cap<=maxLen /\
  (∀ j u,xs[j]?=some u->w.cell? ⟨g,off+j,none⟩=some u)/\∀ j,j<cap*sz->(w.cell? ⟨g,off+j,none⟩).isSome=true/\w.frozen? ⟨g,off+j,none⟩=false)
theorem aI.kept {w w':World}{B sz n:Nat}{v:Value}{xs:List Value}(h:aI w B sz v n xs)(hb:∀ g,v.ownBlock=some g->w'.heap[g]?=w.heap[g]?):aI w' B sz v n xs:=by
 obtain⟨hl,h | ⟨g,off,cap,rfl,hB,hg,h1,h2,h3,h4⟩⟩:=h
 ·exact⟨hl,.inl h⟩
 ·have hh:=hb g rfl;refine⟨hl,.inr ⟨g,off,cap,rfl,hB,?_,h1,h2,fun j u hj=>?_,fun j hj=>?_⟩⟩
  ·have h5:w.heap[g]?=some w.heap[g]:=Array.getElem?_eq_getElem hg;rw[<-hh]at h5;exact(dZ h5)
  ·exact(World.cell?_of_block (a:=⟨g,off+j,none⟩) hh).trans (h3 j u hj)
  ·rw[World.cell?_of_block (a:=⟨g,off+j,none⟩) hh,World.frozen?_of_block (a:=⟨g,off+j,none⟩) hh];exact h4 j hj
theorem aI.lt {w:World}{B sz n:Nat}{v:Value}{xs:List Value}(h:aI w B sz v n xs)(g:Nat)(hg:v.ownBlock=some g):B<=g/\g<w.heap.size:=by
 obtain⟨_,⟨rfl,_⟩ | ⟨g',off,cap,rfl,hB,hh,_⟩⟩:=h
 ·cases hg
 ·injection hg with hg;subst hg;exact⟨hB,hh⟩
def aA (B sz:Nat)(v:Value)(n:Nat)(xs:List Value):Item where
 bl:=v.ownBlock.toList
 ok w:=aI w B sz v n xs
 kept h hw:=hw.kept fun g hg=>h g (by rw[hg];simp)
theorem aI.nil (w:World)(B sz:Nat):aI w B sz (.slice none 0 0) 0 []:=⟨by simp,.inl ⟨rfl,rfl⟩⟩
theorem aI.shape {w:World}{B sz n:Nat}{v:Value}{xs:List Value}(h:aI w B sz v n xs):∃ o c,v=.slice o n c:=by
 obtain⟨_,⟨rfl,rfl⟩ | ⟨g',off,cap,rfl,_⟩⟩:=h
 ·exact⟨_,_,rfl⟩
 ·exact⟨_,_,rfl⟩
theorem aI.next {w:World}{B sz n:Nat}{o:Option Addr}{c:Nat}{ys xs:List Value}(h:aI w B sz (.slice o (n+1) c) (n+1) (ys++xs))(hy:ys.length=sz) :
  ∃ g off,o=some ⟨g,off,none⟩/\(∀ j u,ys[j]?=some u->w.cell? ⟨g,off+j,none⟩=some u)/\n+1<=c/\c<=maxLen/\aI w B sz (.slice (some ⟨g,off+sz,none⟩) n (c-1)) n xs/\(c=1->n=0/\aI w B sz (.slice (some ⟨g,off,none⟩) 0 0) 0 []):=by
 obtain⟨hl,⟨e,_⟩ | ⟨g,off,cap,e,hB,hg,h1,h2,h3,h4⟩⟩:=h
 ·cases e
 ·injection e with e1 _ e2;subst e1 e2;rw[List.length_append,hy,Nat.add_mul,Nat.one_mul]at hl;refine⟨g,off,rfl,fun j u hj=>h3 j u (by rw[List.getElem?_append_left (List.getElem?_eq_some_iff.1 hj).1];exact hj),h1,h2,⟨by omega,.inr ⟨g,off+sz,c-1,rfl,hB,hg,by omega,by omega,fun j u hj=>?_,fun j hj=>?_⟩⟩,fun hc=>⟨by omega,⟨by simp,.inr ⟨g,off,0,rfl,hB,hg,bJ _,Nat.zero_le _,fun j u hj=>by simp at hj,fun j hj=>by simp at hj⟩⟩⟩⟩
  ·rw[Nat.add_assoc];exact h3 (sz+j) u (by rw[List.getElem?_append_right (by omega),hy,Nat.add_sub_cancel_left];exact hj)
  ·rw[Nat.add_assoc];refine h4 (sz+j) ?_;have:(c-1)*sz+sz=c*sz:=by
    rw[<-Nat.succ_mul];congr 1;omega
   omega
section
variable {w:World}
theorem EC {P:Program}(t ty e:TypeId)(z:Value)(sz bytes:Nat)(ht:P.underlying t=some (.slice e))(hinfo:(P.info? e).map (fun i=>(i.zero,i.size,i.bytes))=some (some z,sz,bytes))(hz1:z.cells.size=sz)(hby:bytes<=24)
  (B:Nat) (v:Value) (n:Nat) (xs:List Value) (hown:aI w B sz v n xs) (g:Nat) (qs:List Value) (hql:qs.length=sz) (hb:∀ j u,qs[j]?=some u->w.cell? ⟨g,j,none⟩=some u) (hq:∀ q∈qs,q.oneCell'=true) (hn:n<=1000000000000) (hB:B<=w.heap.size) :
  ∃ v' w',(Builtin.append_ #[t,t] ty #[v,.slice (some ⟨g,0,none⟩) 1 1]).run P w=.ok v' w'/\aI w' B sz v' (n+1) (xs++qs)/\w.grownBy w' v.ownBlock/\(v'.ownBlock=v.ownBlock\/v'.ownBlock=some w.heap.size)/\(∃ ao c,v'=.slice ao (n+1) c):=by
 obtain⟨i,hi,hz,hs,hbi⟩:=info_parts hinfo;have hsrc:Src P i.size t (.slice (some ⟨g,0,none⟩) 1 1) 1 qs w:=Src.ofSlice w ht ⟨g,0,none⟩ 1 1 qs (by rw[hs,hql,Nat.one_mul]) (fun j u hj=>by
  have:(⟨g,0,none⟩:Addr).add j=⟨g,j,none⟩:=by rw[Go.WideShapes.add_plain,Nat.zero_add]
  rw[this];exact hb j u hj) hq
 have hxl:=hown.1;have grown:∀ (base:Option Addr) (cap:Nat),cap<n+1->(Builtin.firstCells i.size n (.slice base n cap)).run P w.drew=.ok xs.toArray w.drew->v=.slice base n cap ->
   ∃ v' w',(Builtin.append_ #[t,t] ty #[v,.slice (some ⟨g,0,none⟩) 1 1]).run P w=.ok v' w'/\aI w' B sz v' (n+1) (xs++qs)/\w.grownBy w' v.ownBlock/\(v'.ownBlock=v.ownBlock\/v'.ownBlock=some w.heap.size)/\(∃ ao c,v'=.slice ao (n+1) c):=by
  intro base cap hc hold hv;have hr:=run_append_grow_src (P:=P) w t t ty e i z ht hi hz base n cap xs hold (.slice (some ⟨g,0,none⟩) 1 1) 1 qs hsrc hc (by omega) (growslice_fits (by omega) (by
   have:(n+1)*i.bytes<=(n+1)*24:=Nat.mul_le_mul_left _ (by omega);omega))
  have hge:=grownCap_ge w (n+1) cap e;have hcm:grownCap w (n+1) cap e<=maxLen:=grownCap_le_maxLen w (n+1) cap e (by unfold maxLen;omega);generalize hK:grownCap w (n+1) cap e=K at hr hge hcm;subst hv;have hblk:=heap_alloc_new w.drew (.cells ((xs++qs).toArray++Builtin.zeroCells z.cells (K-(n+1))) e);have hsize:((xs++qs).toArray++Builtin.zeroCells z.cells (K-(n+1))).size=K*sz:=by
   simp[size_zeroCells,hz1,hxl,hql];rw[<-Nat.succ_mul,<-Nat.add_mul];congr 1;omega
  refine⟨_,_,hr,⟨by rw[List.length_append,hxl,hql,Nat.succ_mul],.inr ⟨w.heap.size,0,K,rfl,hB,by simp,hge,hcm,fun j u hj=>?_,fun j hj=>?_⟩⟩,⟨rfl,rfl,rfl,by simp,fun k hk _=>Below.heap_alloc w.drew _ k hk⟩,.inr rfl,_,_,rfl⟩
  ·have hjl:=(List.getElem?_eq_some_iff.1 hj).1;rw[Nat.zero_add];refine(ak hblk j).trans ?_;rw[Array.getElem?_append_left (by simpa using hjl)];simpa using hj
  ·rw[Nat.zero_add];refine⟨?_,bY hblk j⟩;have e1:(w.drew.alloc (.cells ((xs++qs).toArray++Builtin.zeroCells z.cells (K-(n+1))) e)).cell? ⟨w.heap.size,j,none⟩=_:=ak hblk j;rw[e1,Array.getElem?_eq_getElem (by rw[hsize];exact hj)];rfl
 obtain⟨_,⟨rfl,rfl⟩ | ⟨gg,off,cap,rfl,hBg,hg,h1,h2,h3,h4⟩⟩:=hown
 ·have hx0:xs=[]:=List.eq_nil_of_length_eq_zero (by omega);subst hx0;exact grown none 0 (by simp) (run_firstCells_none w.drew i.size 0 0 0) rfl
 ·by_cases hroom:n+1<=cap
  ·have hcs:(n+1)*sz<=cap*sz:=Nat.mul_le_mul_right _ hroom;rw[Nat.succ_mul]at hcs;have hin:∀ j,j<qs.length->(w.cell? ⟨gg,off+n*i.size+j,none⟩).isSome=true:=fun j hj=>by
    rw[hs,Nat.add_assoc];exact(h4 (n*sz+j) (by omega)).1
   have hfr:∀ j,j<qs.length->w.frozen? ⟨gg,off+n*i.size+j,none⟩=false:=fun j hj=>by
    rw[hs,Nat.add_assoc];exact(h4 (n*sz+j) (by omega)).2
   have hr:=run_append_room_src (P:=P) w t t ty e i ht hi gg off n cap (.slice (some ⟨g,0,none⟩) 1 1) 1 qs hsrc hroom hin hfr;have hsz:(w.setCells gg (off+n*i.size) qs).heap.size=w.heap.size:=by
    have:∀ (vs:List Value) (o:Nat) (w:World),(w.setCells gg o vs).heap.size=w.heap.size:=fun vs=>by
     induction vs with
     | nil=>intro o w;rfl
     | cons a l ih=>intro o w;show((w.setCell ⟨gg,o,none⟩ a).setCells gg (o+1) l).heap.size=_;rw[ih];simp
    exact this _ _ _
   refine⟨_,_,hr,⟨by rw[List.length_append,hxl,hql,Nat.succ_mul],.inr ⟨gg,off,cap,rfl,hBg,by rw[hsz];exact hg,hroom,h2,fun j u hj=>?_,fun j hj=>?_⟩⟩,⟨World.os_setCells _ _ _ _,?_,World.output_setCells _ _ _ _,by rw[hsz];exact bJ _,fun k hk hne=>World.heap_setCells_other w gg _ qs hk (fun e=>hne (by rw[e];rfl))⟩,.inl rfl,_,_,rfl⟩
   ·by_cases hjl:j<xs.length
    ·rw[World.cell?_setCells_out gg qs (off+n*i.size) w ⟨gg,off+j,none⟩ (fun _ _=>.inl (by show off+j<_;rw[hs];omega))];rw[List.getElem?_append_left hjl]at hj;exact h3 j u hj
    ·rw[List.getElem?_append_right (by omega)]at hj;have hjq:=(List.getElem?_eq_some_iff.1 hj).1;have:=World.cell?_setCells_in gg qs (off+n*i.size) w hin (j-xs.length) hjq;have e1:off+n*i.size+(j-xs.length)=off+j:=by rw[hs];omega
     rw[e1]at this;rw[this];rw[<-hj,dH hjq]
   ·rw[World.frozen?_setCells];refine⟨?_,(h4 j hj).2⟩;by_cases hin2:n*sz<=j/\j<n*sz+qs.length
    ·have:=World.cell?_setCells_in gg qs (off+n*i.size) w hin (j-n*sz) (by omega);have e1:off+n*i.size+(j-n*sz)=off+j:=by rw[hs];omega
     rw[e1]at this;rw[this];rfl
    ·rw[World.cell?_setCells_out gg qs (off+n*i.size) w ⟨gg,off+j,none⟩ (fun _ _=>by show off+j<_\/_<=off+j;rw[hs];omega)];exact(h4 j hj).1
   ·have:∀ (vs:List Value) (o:Nat) (w:World),(w.setCells gg o vs).tape=w.tape:=fun vs=>by
     induction vs with
     | nil=>intro o w;rfl
     | cons a l ih=>intro o w;show((w.setCell ⟨gg,o,none⟩ a).setCells gg (o+1) l).tape=_;rw[ih];rfl
    exact this _ _ _
  ·refine grown _ cap (by omega) (run_firstCells_some w.drew i.size n ⟨gg,off,none⟩ n cap xs (by rw[hs];exact hxl) fun j u hu=>?_) rfl;rw[show(⟨gg,off,none⟩:Addr).add j=⟨gg,off+j,none⟩by unfold Addr.add;split<;>simp_all];exact h3 j u hu
end
theorem az.bU {B:Nat}{W w w':World}{l:List Item}(h:az B W w l)(i:Nat){sz n m:Nat}{v v':Value}{xs ys:List Value}(hx:l[i]?=some (aA B sz v n xs))(hown:aI w' B sz v' m ys)(hg:w.grownBy w' v.ownBlock)(hat:v'.ownBlock=v.ownBlock\/v'.ownBlock=some w.heap.size):az B W w' (l.set i (aA B sz v' m ys)):=
 h.upd i hx (aA B sz v' m ys) (Touch.grown hg) hown fun b hb=>by
  have hb':v'.ownBlock=some b:=by
   have:b∈v'.ownBlock.toList:=hb;simpa using this
  refine⟨?_,(hown.lt b hb').2⟩;rcases hat with e1 | e1
  ·exact .inl (show b∈v.ownBlock.toList by rw[<-e1,hb'];simp)
  ·rw[e1]at hb';injection hb' with hb';exact .inr (by omega)
open Go.Maps (Keyed)
theorem laidout:laidOutB Tryz.prog=true:=by kernel_rfl
theorem Bh:Keyed Tryz.prog 60:=Maps.Keyed.of_law (deep_law_laid laidout (m:=2) (by omega) (of_decide_eq_true (by kernel_rfl)) (by kernel_rfl) (by kernel_rfl))
theorem um:Keyed Tryz.prog 158:=Maps.Keyed.of_law (deep_law_laid laidout (m:=3) (by omega) (of_decide_eq_true (by kernel_rfl)) (by kernel_rfl) (by kernel_rfl))
theorem key60 (a b:Int)(ha:(Lit.int .i64 a).wf=true)(hb:(Lit.int .i64 b).wf=true):∃ l,keyOf Tryz.prog 60 (.agg #[.int .i64 a,.int .i64 b])=some l:=by
 have hu:=Tryz.underlying60;have hk:Tryz.prog.keyType 60=true:=by kernel_rfl
 have c1:Tryz.prog.cellsOf 60=2:=by kernel_rfl
 have c2:Tryz.prog.cellsOf 3=1:=by kernel_rfl
 have hs:∃ m,Tryz.prog.types.size=m+1:=⟨Tryz.prog.types.size-1,by kernel_rfl⟩;obtain⟨m,hm⟩:=hs;have hf:Value.formed Tryz.prog 60 (.agg #[.int .i64 a,.int .i64 b])=true:=by
  simp[Value.formed,hu,c1]
 unfold keyOf;rw[hu];simp only[hk,hf,Bool.and_self,if_true,Value.cells,hm];simp[Program.keyLits,hu,c1,c2,Tryz.underlying3,ha,hb,List.range,List.range.loop,List.mapM_cons]
theorem key158 (s a b:Int)(hs0:(Lit.int .i64 s).wf=true)(ha:(Lit.int .i64 a).wf=true)(hb:(Lit.int .i64 b).wf=true):∃ l,keyOf Tryz.prog 158 (.agg #[.int .i64 s,.int .i64 a,.int .i64 b])=some l:=by
 have hu:=Tryz.underlying158;have hu2:=Tryz.underlying60;have hk:Tryz.prog.keyType 158=true:=by kernel_rfl
 have c0:Tryz.prog.cellsOf 158=3:=by kernel_rfl
 have c1:Tryz.prog.cellsOf 60=2:=by kernel_rfl
 have c2:Tryz.prog.cellsOf 3=1:=by kernel_rfl
 have hs:∃ m,Tryz.prog.types.size=m+2:=⟨Tryz.prog.types.size-2,by kernel_rfl⟩;obtain⟨m,hm⟩:=hs;have hf:Value.formed Tryz.prog 158 (.agg #[.int .i64 s,.int .i64 a,.int .i64 b])=true:=by
  simp[Value.formed,hu,c0]
 unfold keyOf;rw[hu];simp only[hk,hf,Bool.and_self,if_true,Value.cells,hm];simp[Program.keyLits,hu,hu2,c0,c1,c2,Tryz.underlying3,hs0,ha,hb,List.range,List.range.loop,List.mapM_cons];rw[if_pos (by
  intro i hi
  match i,hi with
  | 0,_=>exact(by decide:¬ ("Prod" : String) = "_")
  | 1,_=>exact(by decide:¬ ("Dot" : String) = "_"))]
 exact⟨_,rfl⟩
end Go.Proofs.YticmnfmijdgmbaaGreatDoor
