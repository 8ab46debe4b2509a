import Derived.Test.YticmnfmijdgmbaaGreatDoorXf
set_option linter.all false
namespace Go.Proofs.YticmnfmijdgmbaaGreatDoor.aJ
open aO (It)
def cnt (v:Nat):Nat:=(List.range 64).countP fun i=>v.testBit i
theorem cnt_le (v:Nat):cnt v<=64:=by
 unfold cnt;exact eX List.countP_le_length (by simp)
theorem zZ {α:Type}{p q:α->Bool} : ∀ {l:List α},(∀ x∈l,p x=true->q x=true)->(∃ x∈l,q x=true/\p x=false)->l.countP p<l.countP q
 | [],_,h=>by obtain⟨x,hx,_⟩:=h;cases hx
 | a::l,h1,h2=>by
  have hle:l.countP p<=l.countP q:=List.countP_mono_left fun x hx=>h1 x (List.mem_cons_of_mem _ hx);rw[List.countP_cons,List.countP_cons];obtain⟨x,hx,h3,h4⟩:=h2;rcases List.mem_cons.1 hx with e | e
  ·subst e;rw[h3,h4];simp;omega
  ·have ih:=zZ (l:=l) (fun x hx=>h1 x (List.mem_cons_of_mem _ hx)) ⟨x,e,h3,h4⟩;have ha:=h1 a List.mem_cons_self;cases hp:p a
   ·simp;omega
   ·rw[ha hp];simp;omega
theorem cnt_lt {a v:Nat}(hv:v<top)(h:¬ fM v a):cnt a<cnt (a ||| v):=by
 have:∃ i,v.testBit i=true/\a.testBit i=false:=by
  refine Classical.byContradiction fun hn=>h (eG.2 fun i hi=>?_);cases ha:a.testBit i
  ·exact absurd ⟨i,hi,ha⟩ hn
  ·rfl
 obtain⟨i,h1,h2⟩:=this;have hi:i<64:=by
  rcases Nat.lt_or_ge i 64 with h3 | h3
  ·exact h3
  ·rw[kC hv h3]at h1;cases h1
 refine zZ (fun x _ hx=>by rw[Nat.testBit_or,hx];rfl) ⟨i,List.mem_range.2 hi,by rw[Nat.testBit_or,h1];simp,h2⟩
namespace cZ
def miss (P:List Pl)(A:Pl->Nat):Nat:=(P.map fun q=>64-cnt (A q)).sum
theorem Il (P:List Pl):miss P (fun _=>0)<=64*P.length:=by
 unfold miss;induction P with
 | nil=>exact bJ _
 | cons a l ih =>
  rw[List.map_cons,List.sum_cons,List.length_cons];omega
theorem Du {P:List Pl}{A:Pl->Nat}{t:Pl}{v:Nat}(ht:t∈P)(hv:v<top)(h:¬ fM v (A t)):miss P (iI A t v)<miss P A:=by
 have hle:∀ q,cnt (A q)<=cnt (iI A t v q):=fun q=>by
  unfold iI;split
  ·rename_i e;subst e;exact Nat.le_of_lt (cnt_lt hv h)
  ·exact bJ _
 have hmono:∀ l:List Pl,miss l (iI A t v)<=miss l A:=fun l=>by
  unfold miss;induction l with
  | nil=>exact bJ _
  | cons a l ih =>
   rw[List.map_cons,List.map_cons,List.sum_cons,List.sum_cons];have:=hle a;omega
 have key:∀ l:List Pl,t∈l->miss l (iI A t v)<miss l A:=fun l=>by
  induction l with
  | nil=>intro h;cases h
  | cons a l ih =>
   intro hm;have h1:=hmono l;have h2:=hle a;unfold miss at *;rw[List.map_cons,List.map_cons,List.sum_cons,List.sum_cons];rcases List.mem_cons.1 hm with e | e
   ·subst e;have h3:cnt (A t)<cnt (iI A t v t):=by rw[kz];exact cnt_lt hv h
    have h4:=cnt_le (iI A t v t);omega
   ·have:=ih e;omega
 exact key P ht
end cZ
end Go.Proofs.YticmnfmijdgmbaaGreatDoor.aJ
namespace Go.Proofs.YticmnfmijdgmbaaGreatDoor
open Go Go.RowKit Go.Lib
open aO (It ag aN)
open aJ (u64 jd Com aZ top E0 F0 fM)
open aJ.cZ (Pl WQ WS dJ places bi iI miss Eo)
theorem Jp {LA LA':List (Pl×Nat)}{p:Pl}{v:Nat}(h:∀ q,dD LA' q=if q=p then dD LA p ||| v else dD LA q):dD LA'=iI (dD LA) p v:=funext fun q=>by
 rw[h q];unfold aJ.cZ.iI;rfl
theorem Aq {ask:aJ.cZ.Ask}{P:List Pl}{b0:Pl}{v0:Nat}{LA LA':List (Pl×Nat)}{Q Q':List Pl}{x:Pl}{S k:Nat}(hm:aJ.cZ.MQ ask)(h:WS ask P b0 v0 (dD LA) Q x S k){t:Pl}{v:Nat}(he:(ask x S)[k]?=some (t,v))(ht:t∈P)(hv:v<top)
  (hc:(fM v (dD LA t)/\LA'=LA/\Q'=Q)\/(¬ fM v (dD LA t)/\Q'=Q++[t]/\∀ q,dD LA' q=if q=t then dD LA t ||| v else dD LA q)) :
  WS ask P b0 v0 (dD LA') Q' x S (k+1)/\Q'.length+miss P (dD LA')<=Q.length+miss P (dD LA)/\Q'.length+2*miss P (dD LA')<=Q.length+2*miss P (dD LA)/\∀ q,fM (dD LA q) (dD LA' q):=by
 rcases hc with⟨h1,rfl,rfl⟩ | ⟨h1,rfl,h3⟩
 ·exact⟨h.skip he h1,bJ _,bJ _,fun q=>aJ.gB _⟩
 ·have e:=Jp h3;have hlt:=aJ.cZ.Du (P:=P) ht hv h1;rw[e];refine⟨h.add hm he ht hv,?_,?_,fun q=>aJ.cZ.ql _ _ _ _⟩<;>rw[List.length_append,List.length_singleton]<;>omega
theorem zi {G:GD}(hV:aB G=true):aJ.cZ.Ag G:=fun x s h=>by
 have ht:=aO.bW.1 (aO.fA h);have hst:=dR hV;unfold aO.aY at h;rw[if_pos (aO.fA (by unfold aO.aY;exact h))]at h;have hm:=List.mem_of_getElem? h;have hs:(0<=s/\s<(G.terms.length:Int))\/(s<0/\-1-s<(G.sorts.length:Int)):=by
  unfold aO.ax at hm;split at hm
  ·obtain rfl:s=-1-G.start:=by simpa using hm
   exact .inr ⟨by omega,by omega⟩
  ·have hp:x.1.toNat<G.prods.length:=by omega
   rw[dL,dH hp]at hm;exact(aJ.gy hV _ (List.getElem_mem hp)).2.2 s hm
 rcases hs with⟨h1,h2⟩ | ⟨h1,h2⟩
 ·refine⟨s.toNat,by unfold ig;rw[if_pos h1,if_pos h2],?_⟩;have:=aO.qR (G:=G) (t:=s.toNat) (by omega);rw[this];congr 1;omega
 ·refine⟨G.terms.length+(-1-s).toNat,by unfold ig;rw[if_neg (by omega),if_pos h2],?_⟩;have:=aO.qU (G:=G) (s:=(-1-s).toNat) (by omega);rw[this];congr 1;omega
theorem Cf {G:GD}(hV:aB G=true){x:It}(h:aO.bu G x=true):MV x/\-1<=x.1/\x.1<=120/\0<=x.2/\x.2<=12:=by
 obtain⟨h1,h2,h3,h4⟩:=aO.bW.1 h;have h5:=aO.right_le hV h1 h2;have h6:=(bn hV).2.2.1;refine⟨⟨by omega,by omega,by omega,by omega⟩,by omega,by omega,h3,by omega⟩
theorem vZ {G:GD}{n i:Nat}{x:It}(h:(i,x)∈places (bi G n (E0 G) (F0 G)) n):i<n/\aO.bu G x=true:=by
 obtain⟨h1,h2⟩:=aJ.cZ.mem_places.1 h;exact⟨h1,(aJ.cZ.iV.1 h2).there⟩
theorem xP {G:GD}(hV:aB G=true){n:Nat}(hn:n<=2000){p:Pl}(h:p∈places (bi G n (E0 G) (F0 G)) n):Je p:=by
 obtain⟨i,x⟩:=p;obtain⟨h1,h2⟩:=vZ h;obtain⟨⟨a,b,c,d⟩,_⟩:=Cf hV h2;exact⟨by show(i:Int)<=_;omega,a,b,c,d⟩
end Go.Proofs.YticmnfmijdgmbaaGreatDoor
