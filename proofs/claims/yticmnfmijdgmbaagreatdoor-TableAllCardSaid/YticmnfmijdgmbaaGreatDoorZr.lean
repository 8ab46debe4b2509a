import Derived.Test.YticmnfmijdgmbaaGreatDoorZp
set_option linter.all false
namespace Go.Proofs.aO
open Go.Proofs.YticmnfmijdgmbaaGreatDoor (GD PD aB)
instance (a b:It):Decidable (Less a b):=by unfold Less;exact inferInstance
def G5 (G:GD)(ker:List It):List It->List It->Bool
 | _,[]=>true
 | acc,x::r=>((ker.contains x && bu G x) || acc.any fun y=>match aY G y with
  | none=>false
  | some s=>decide (s<0) && decide (x.2=0) && decide (0<=x.1) && decide (x.1.toNat<G.prods.length) && decide (bg G x.1.toNat=-1-s)) && G5 G ker (acc++[x]) r
def closB (G:GD)(c:List It):Bool:=c.all fun x=>match aY G x with
 | none=>true
 | some s=>decide (0<=s) || (List.range G.prods.length).all fun p=>decide (bg G p≠-1-s) || c.contains ((p:Int),0)
theorem GZ {G:GD}{ker:List It} : ∀ (d acc:List It),(∀ x∈acc,rP G ker x)->G5 G ker acc d=true->∀ x∈d,rP G ker x
 | [],_,_,_,x,hx=>by cases hx
 | y::d,acc,ha,h,x,hx=>by
  unfold G5 at h;rw[Bool.and_eq_true,Bool.or_eq_true,Bool.and_eq_true]at h;have hy:rP G ker y:=by
   rcases h.1 with⟨h1,h2⟩ | h1
   ·exact .base y (by simpa using h1) h2
   ·obtain⟨z,hz,h2⟩:=List.any_eq_true.1 h1;cases hb:aY G z with
    | none=>rw[hb]at h2;cases h2
    | some s =>
     rw[hb]at h2;simp only[Bool.and_eq_true,decide_eq_true_eq]at h2;obtain⟨⟨⟨⟨a1,a2⟩,a3⟩,a4⟩,a5⟩:=h2;have e:y=(((y.1.toNat:Nat):Int),0):=Prod.ext (by show y.1=((y.1.toNat:Nat):Int);omega) a2;rw[e];exact .more z s y.1.toNat (ha z hz) hb a1 a4 a5
  rcases List.mem_cons.1 hx with e | e
  ·rw[e];exact hy
  ·exact GZ d (acc++[y]) (fun z hz=>by
    rcases List.mem_append.1 hz with h3 | h3
    ·exact ha z h3
    ·rw[List.mem_singleton.1 h3];exact hy) h.2 x e
theorem lC {G:GD}{ker c d:List It}(h1:iQ c)(h2:G5 G ker [] d=true)(h3:∀ x∈c,x∈d)(h4:∀ x∈ker,x∈c)(h5:closB G c=true):aP G ker=c:=by
 refine(vN (iR.of h1 (fun x hx=>GZ d [] (fun x hx=>by cases hx) h2 x (h3 x hx)) (fun x hx _=>h4 x hx) fun x hx s hb hs p hp he=>?_)).symm;have h6:=List.all_eq_true.1 h5 x hx;rw[hb]at h6;simp only[Bool.or_eq_true,decide_eq_true_eq]at h6;have h7:=List.all_eq_true.1 (h6.resolve_left (by omega)) p (List.mem_range.2 hp);simp only[Bool.or_eq_true,decide_eq_true_eq]at h7;rcases h7 with h7 | h7
 ·exact absurd he h7
 ·simpa using h7
def iE:GD:=⟨[⟨#[97]⟩],[],[⟨#[83]⟩],[⟨⟨#[112]⟩,0,[0,-1],0⟩,⟨⟨#[113]⟩,0,[],0⟩],0⟩
theorem xm:aB iE=true:=by decide +kernel
theorem T_c0:aP iE [(-1,0)]=[(-1,0),(0,0),(1,0)]:=lC (d:=[(-1,0),(0,0),(1,0)]) (by unfold iQ;decide) (by decide) (by decide) (by decide) (by decide)
theorem T_c1:aP iE [(0,1)]=[(0,0),(0,1),(1,0)]:=lC (d:=[(0,1),(0,0),(1,0)]) (by unfold iQ;decide) (by decide) (by decide) (by decide) (by decide)
theorem T_c2:aP iE [(-1,1)]=[(-1,1)]:=lC (d:=[(-1,1)]) (by unfold iQ;decide) (by decide) (by decide) (by decide) (by decide)
theorem T_c3:aP iE [(0,2)]=[(0,2)]:=lC (d:=[(0,2)]) (by unfold iQ;decide) (by decide) (by decide) (by decide) (by decide)
theorem MK:(ag iE 1).ker=[[(-1,0)],[(0,1)],[(-1,1)]]/\(ag iE 1).nx=[[1,2]]:=by
 obtain⟨h1,h2⟩:=jb iE 0;have e:(ag iE 0).ker.getD 0 []=[(-1,0)]:=rfl;rw[e,T_c0]at h1 h2;exact⟨h1.trans (by decide),h2.trans (by decide)⟩
theorem MJ:(ag iE 2).ker=[[(-1,0)],[(0,1)],[(-1,1)],[(0,2)]]/\(ag iE 2).nx=[[1,2],[1,3]]:=by
 obtain⟨h1,h2⟩:=jb iE 1;have e:(ag iE 1).ker.getD 1 []=[(0,1)]:=by rw[MK.1];rfl
 rw[e,T_c1,MK.1]at h1 h2;rw[MK.2]at h2;exact⟨h1.trans (by decide),h2.trans (by decide)⟩
theorem MI:(ag iE 3).ker=[[(-1,0)],[(0,1)],[(-1,1)],[(0,2)]]/\(ag iE 3).nx=[[1,2],[1,3],[-1,-1]]:=by
 obtain⟨h1,h2⟩:=jb iE 2;have e:(ag iE 2).ker.getD 2 []=[(-1,1)]:=by rw[MJ.1];rfl
 rw[e,T_c2,MJ.1]at h1 h2;rw[MJ.2]at h2;exact⟨h1.trans (by decide),h2.trans (by decide)⟩
theorem MH:(ag iE 4).ker=[[(-1,0)],[(0,1)],[(-1,1)],[(0,2)]]/\(ag iE 4).nx=[[1,2],[1,3],[-1,-1],[-1,-1]]:=by
 obtain⟨h1,h2⟩:=jb iE 3;have e:(ag iE 3).ker.getD 3 []=[(0,2)]:=by rw[MI.1];rfl
 rw[e,T_c3,MI.1]at h1 h2;rw[MI.2]at h2;exact⟨h1.trans (by decide),h2.trans (by decide)⟩
theorem MG:aN iE 4:=by
 refine⟨⟨fun m hm=>?_,fun m hm=>?_⟩,by rw[MH.1];decide⟩
 ·have:m=0\/m=1\/m=2\/m=3:=by omega
  rcases this with rfl | rfl | rfl | rfl
  ·show 0<1;omega
  ·rw[MK.1];decide
  ·rw[MJ.1];decide
  ·rw[MI.1];decide
 ·have:m=0\/m=1\/m=2\/m=3:=by omega
  rcases this with rfl | rfl | rfl | rfl
  ·rw[MK.1];decide
  ·rw[MJ.1];decide
  ·rw[MI.1];decide
  ·rw[MH.1];decide
def mD:GD:=⟨[⟨#[97]⟩],[],[⟨#[83]⟩],[⟨⟨#[112]⟩,0,[0,-1],0⟩,⟨⟨#[113]⟩,0,[],0⟩,⟨⟨#[114]⟩,0,[0],0⟩],0⟩
theorem BO:aB mD=true:=by decide +kernel
theorem U_c0:aP mD [(-1,0)]=[(-1,0),(0,0),(1,0),(2,0)]:=lC (d:=[(-1,0),(0,0),(1,0),(2,0)]) (by unfold iQ;decide) (by decide) (by decide) (by decide) (by decide)
theorem U_c1:aP mD [(0,1),(2,1)]=[(0,0),(0,1),(1,0),(2,0),(2,1)]:=lC (d:=[(0,1),(2,1),(0,0),(1,0),(2,0)]) (by unfold iQ;decide) (by decide) (by decide) (by decide) (by decide)
theorem U_c2:aP mD [(-1,1)]=[(-1,1)]:=lC (d:=[(-1,1)]) (by unfold iQ;decide) (by decide) (by decide) (by decide) (by decide)
theorem U_c3:aP mD [(0,2)]=[(0,2)]:=lC (d:=[(0,2)]) (by unfold iQ;decide) (by decide) (by decide) (by decide) (by decide)
theorem MC:(ag mD 1).ker=[[(-1,0)],[(0,1),(2,1)],[(-1,1)]]/\(ag mD 1).nx=[[1,2]]:=by
 obtain⟨h1,h2⟩:=jb mD 0;have e:(ag mD 0).ker.getD 0 []=[(-1,0)]:=rfl;rw[e,U_c0]at h1 h2;exact⟨h1.trans (by decide),h2.trans (by decide)⟩
theorem MB:(ag mD 2).ker=[[(-1,0)],[(0,1),(2,1)],[(-1,1)],[(0,2)]]/\(ag mD 2).nx=[[1,2],[1,3]]:=by
 obtain⟨h1,h2⟩:=jb mD 1;have e:(ag mD 1).ker.getD 1 []=[(0,1),(2,1)]:=by rw[MC.1];rfl
 rw[e,U_c1,MC.1]at h1 h2;rw[MC.2]at h2;exact⟨h1.trans (by decide),h2.trans (by decide)⟩
theorem Me:(ag mD 3).ker=[[(-1,0)],[(0,1),(2,1)],[(-1,1)],[(0,2)]]/\(ag mD 3).nx=[[1,2],[1,3],[-1,-1]]:=by
 obtain⟨h1,h2⟩:=jb mD 2;have e:(ag mD 2).ker.getD 2 []=[(-1,1)]:=by rw[MB.1];rfl
 rw[e,U_c2,MB.1]at h1 h2;rw[MB.2]at h2;exact⟨h1.trans (by decide),h2.trans (by decide)⟩
theorem U_i4:(ag mD 4).ker=[[(-1,0)],[(0,1),(2,1)],[(-1,1)],[(0,2)]]/\(ag mD 4).nx=[[1,2],[1,3],[-1,-1],[-1,-1]]:=by
 obtain⟨h1,h2⟩:=jb mD 3;have e:(ag mD 3).ker.getD 3 []=[(0,2)]:=by rw[Me.1];rfl
 rw[e,U_c3,Me.1]at h1 h2;rw[Me.2]at h2;exact⟨h1.trans (by decide),h2.trans (by decide)⟩
theorem Md:aN mD 4:=by
 refine⟨⟨fun m hm=>?_,fun m hm=>?_⟩,by rw[U_i4.1];decide⟩
 ·have:m=0\/m=1\/m=2\/m=3:=by omega
  rcases this with rfl | rfl | rfl | rfl
  ·show 0<1;omega
  ·rw[MC.1];decide
  ·rw[MB.1];decide
  ·rw[Me.1];decide
 ·have:m=0\/m=1\/m=2\/m=3:=by omega
  rcases this with rfl | rfl | rfl | rfl
  ·rw[MC.1];decide
  ·rw[MB.1];decide
  ·rw[Me.1];decide
  ·rw[U_i4.1];decide
end Go.Proofs.aO
namespace Go.Proofs.YticmnfmijdgmbaaGreatDoor
open aO (It iE mD ag aN aP ax aY bg rP aX cO)
open aJ (aZ top E0 F0 fM)
open aJ.cZ (Pl dm dJ places bi mem_places iV fE jo iK dV yw xX)
namespace wQ
theorem lin_A {G:GD}{n:Nat}{A:Pl->Nat}(hO:aN G n)(hV:aB G=true)(hL:LA G n A)(hlin:∀ x s,aY G x=some s->s<0->dV G x=[]):∀ i x,i<n->x∈(bi G n (E0 G) (F0 G)).C i->A (i,x)=aZ 63:=by
 have up:∀ i x,i<n->x∈(bi G n (E0 G) (F0 G)).C i->fM (A (i,x)) (aZ 63):=fun i x hi hx=>by
  refine hL.least (fun _=>aZ 63) (fun p hp e he=>?_) (aJ.gB _) _ (mem_places.2 ⟨hi,hx⟩);cases hb:aY G p.2 with
  | none=>rw[jo (show aY (bi G n (E0 G) (F0 G)).G p.2=none from hb)]at he;cases he
  | some s =>
   rw[fE (show aY (bi G n (E0 G) (F0 G)).G p.2=some s from hb)]at he;rcases List.mem_cons.1 he with e1 | e1
   ·subst e1;exact aJ.gB _
   ·by_cases hs:s<0
    ·rw[if_pos hs]at e1;obtain⟨q,h3,h4,rfl⟩:=iK.1 e1;have hr:dV (bi G n (E0 G) (F0 G)).G p.2=[]:=hlin _ _ hb hs;unfold aJ.cZ.yw aJ.cZ.xX;rw[hr];show fM (0 ||| aZ 63) (aZ 63);rw[Nat.zero_or];exact aJ.gB _
    ·rw[if_neg hs]at e1;cases e1
 have lo:∀ i,i<n->∀ x,x∈(bi G n (E0 G) (F0 G)).C i->fM (aZ 63) (A (i,x)):=by
  obtain⟨hI,ha,hl⟩:=hO.inv;intro i;induction i using Nat.strongRecOn with
  | _ i ih =>
   intro hi x hx;have hin:=iV.1 hx;induction hin with
   | base x hk ht =>
    rcases Nat.eq_zero_or_pos i with e | e
    ·subst e;rw[aO.getD_get hI.first]at hk;rw[List.mem_singleton.1 hk];exact hL.start
    ·obtain⟨j,k,R,a1,a2,a3,a4,a5⟩:=hI.come i e (by omega);obtain⟨s,hs⟩:∃ s,(cO G)[k]?=some s:=⟨_,dH a5⟩;rcases hI.gY a1 hs a3 a4 with⟨e1,_⟩ | ⟨q,e1,_,_,e4⟩
     ·omega
     ·obtain rfl:i=q:=by omega
      rw[aO.getD_get e4]at hk;obtain⟨y,hy,hb,rfl⟩:=aO.iU.1 hk;have hg:ng G (ag G n).nx (j:Int) s=(i:Int):=qG (zh hs) a3 a4;have ht:(bi G n (E0 G) (F0 G)).to j s=i:=by show(ng G (ag G n).nx (j:Int) s).toNat=i;rw[hg];rfl
      have h1:=aJ.cZ.dm.lL hL (i:=j) (by omega) (show y∈(bi G n (E0 G) (F0 G)).C j from hy) hb;rw[ht]at h1;exact aJ.dG (ih j a2 (by omega) y hy) h1
   | more x s p h hb hs hp he ihx =>
    have hxC:x∈(bi G n (E0 G) (F0 G)).C i:=iV.2 h;have h1:=aJ.cZ.dm.more hL hi hxC hb hs hp he;have hr:dV (bi G n (E0 G) (F0 G)).G x=[]:=hlin _ _ hb hs;rw[hr]at h1;exact aJ.dG (ihx hxC) h1
 exact fun i x hi hx=>aJ.jk (up i x hi hx) (lo i hi x hx)
def DX (G:GD)(l:List It)(m:Nat):List Int:=((List.range m).filter fun i=>decide ((l.getD i (0,0)).2=((ax G (l.getD i (0,0)).1).length:Int))).map fun i=>(l.getD i (0,0)).1
theorem done_c {G:GD}{l:List It}{us:List Nat}(hl:us.length=l.length)(hu:∀ u∈us,u≠0)(hc:aP G l=l):doneN G l us l.length=DX G l l.length:=by
 unfold doneN DX;congr 1;refine List.filter_congr fun i hi=>?_;have hi:i<l.length:=List.mem_range.1 hi;unfold qK;rw[decide_eq_decide];refine⟨fun h=>h.2.2.2,fun h=>⟨by omega,?_,?_,h⟩⟩
 ·rw[dL,dH (by omega)];exact hu _ (List.getElem_mem _)
 ·rw[hc,dL,dH hi];exact List.getElem_mem _
theorem DN {B:Nat}{z:Int}(hB:aJ.gu B z=true)(f:Int->Nat):∀ (P:List Int),(∀ p∈P,f p=B)->(P.map fun p=>(p,f p)).flatMap (one1 z)=P.map fun p=>if p<0 then((3:Int),(0:Int))else(2,p)
 | [],_=>rfl
 | p::P,h=>by
  rw[List.map_cons,List.flatMap_cons,List.map_cons,DN hB f P fun q hq=>h q (List.mem_cons_of_mem _ hq),h p List.mem_cons_self];unfold one1;rw[if_pos hB];by_cases hp:p<0
  ·rw[if_pos hp,if_pos hp];rfl
  ·rw[if_neg hp,if_neg hp];rfl
theorem DJ {B:Nat}{z:Int}(hB:aJ.gu B z=false)(f:Int->Nat):∀ (P:List Int),(∀ p∈P,f p=B)->(P.map fun p=>(p,f p)).flatMap (one1 z)=[]
 | [],_=>rfl
 | p::P,h=>by
  rw[List.map_cons,List.flatMap_cons,DJ hB f P fun q hq=>h q (List.mem_cons_of_mem _ hq),h p List.mem_cons_self];unfold one1;rw[if_neg (by rw[hB];exact Bool.false_ne_true)];rfl
theorem b63:aZ 63≠0:=fun h=>by
 have:=aJ.cZ.xe;rw[h]at this;simp at this
theorem has63:aJ.gu (aZ 63) 63=true:=(wX _ (by omega) (by omega)).2 aJ.cZ.xe
def deedC (G:GD)(nx:List (List Int))(l:List It)(i k:Nat):List It:=sU G nx (i:Int) k++if k=G.terms.length then(DX G l l.length).map fun p=>if p<0 then(3,0)else(2,p)else []
theorem Lu {G:GD}{n:Nat}{A:Pl->Nat}(hO:aN G n)(hV:aB G=true)(hL:LA G n A)(hlin:∀ x s,aY G x=some s->s<0->dV G x=[]){i k:Nat}(hi:i<n)(hk:k<=G.terms.length):dS G n A i k=deedC G (ag G n).nx ((bi G n (E0 G) (F0 G)).C i) i k:=by
 have hA:=lin_A hO hV hL hlin;have h60:=(aJ.gm hV).1;have hcl:aP G ((bi G n (E0 G) (F0 G)).C i)=(bi G n (E0 G) (F0 G)).C i:=aO.uB G _;have hus:((bi G n (E0 G) (F0 G)).C i).map (fun x=>A (i,x))=((bi G n (E0 G) (F0 G)).C i).map fun _=>aZ 63:=List.map_congr_left fun x hx=>hA i x hi hx;unfold dS dE jU deedC gV;rw[hus,done_c (by simp) (fun u hu=>by
  obtain⟨_,_,rfl⟩:=List.mem_map.1 hu;exact b63) hcl]
 congr 1;have hp:∀ p∈DX G ((bi G n (E0 G) (F0 G)).C i) ((bi G n (E0 G) (F0 G)).C i).length,(fun p=>(((bi G n (E0 G) (F0 G)).C i).map fun _=>aZ 63).getD (GG (p,((ax G p).length:Int)) ((bi G n (E0 G) (F0 G)).C i)) 0) p=aZ 63:=fun p hp=>by
  unfold DX at hp;obtain⟨j,hj,rfl⟩:=List.mem_map.1 hp;obtain⟨h1,h2⟩:=List.mem_filter.1 hj;have h2:=of_decide_eq_true h2;have hjl:j<((bi G n (E0 G) (F0 G)).C i).length:=List.mem_range.1 h1;dsimp only;rw[<-h2];have hm:((bi G n (E0 G) (F0 G)).C i).getD j (0,0)∈(bi G n (E0 G) (F0 G)).C i:=by rw[dL,dH hjl];exact List.getElem_mem _
  have h3:=ry hm;rw[dL,List.getElem?_map,h3,Option.map_some,Option.getD_some]
 have hno:k≠G.terms.length->aJ.gu (aZ 63) (k:Int)=false:=fun hk2=>by
  refine Bool.eq_false_iff.2 fun h=>?_;rw[wX _ (by omega) (by omega),aJ.dN]at h;have:=of_decide_eq_true h;omega
 by_cases hkT:k=G.terms.length
 ·rw[if_pos hkT,if_pos hkT];exact DN has63 _ _ hp
 ·rw[if_neg hkT,if_neg hkT];exact DJ (hno hkT) _ _ hp
theorem T_lin:∀ x s,aY iE x=some s->s<0->dV iE x=[]:=fun x s hb hs=>by
 have hm:=aO.qy (aO.fA hb);have key:(aO.BL iE).all (fun x=>match aY iE x with
  | none=>true
  | some s=>decide (0<=s) || (dV iE x).isEmpty)=true:=by decide
 have h1:=List.all_eq_true.1 key x hm;rw[hb]at h1;simp only[Bool.or_eq_true,decide_eq_true_eq]at h1;exact List.isEmpty_iff.1 (h1.resolve_left (by omega))
theorem T_C:∀ i,i<4->(bi iE 4 (E0 iE) (F0 iE)).C i=([[(-1,0),(0,0),(1,0)],[(0,0),(0,1),(1,0)],[(-1,1)],[(0,2)]]:List (List It)).getD i []:=fun i hi=>by
 show aP iE ((ag iE 4).ker.getD i [])=_;rw[aO.MH.1];have:i=0\/i=1\/i=2\/i=3:=by omega
 rcases this with rfl | rfl | rfl | rfl
 ·exact aO.T_c0
 ·exact aO.T_c1
 ·exact aO.T_c2
 ·exact aO.T_c3
def G9:List (List (List It)):=[[[(1,1)],[(2,1)]],[[(1,1)],[(2,1)]],[[],[(3,0)]],[[],[(2,0)]]]
theorem xn {A:Pl->Nat}(hL:LA iE 4 A):∀ i k,i<4->k<2->dS iE 4 A i k=(G9.getD i []).getD k []:=fun i k hi hk=>by
 rw[Lu aO.MG aO.xm hL T_lin hi (by show k<=1;omega),T_C i hi,aO.MH.2];have h1:i=0\/i=1\/i=2\/i=3:=by omega
 have h2:k=0\/k=1:=by omega
 rcases h1 with rfl | rfl | rfl | rfl<;>rcases h2 with rfl | rfl<;>decide
theorem T_cl {A:Pl->Nat}(hL:LA iE 4 A):jG (iW (dS iE 4 A)) 2 4=[]:=by
 have h:∀ i k,i<4->k<2->iW (dS iE 4 A) i k=((G9.getD i []).getD k []).length:=fun i k hi hk=>by unfold iW;rw[xn hL i k hi hk]
 simp only[jG,dW];rw[h 0 0 (by omega) (by omega),h 0 1 (by omega) (by omega),h 1 0 (by omega) (by omega),h 1 1 (by omega) (by omega),h 2 0 (by omega) (by omega),h 2 1 (by omega) (by omega),h 3 0 (by omega) (by omega),h 3 1 (by omega) (by omega)];decide
theorem U_lin:∀ x s,aY mD x=some s->s<0->dV mD x=[]:=fun x s hb hs=>by
 have hm:=aO.qy (aO.fA hb);have key:(aO.BL mD).all (fun x=>match aY mD x with
  | none=>true
  | some s=>decide (0<=s) || (dV mD x).isEmpty)=true:=by decide
 have h1:=List.all_eq_true.1 key x hm;rw[hb]at h1;simp only[Bool.or_eq_true,decide_eq_true_eq]at h1;exact List.isEmpty_iff.1 (h1.resolve_left (by omega))
theorem U_C:∀ i,i<4->(bi mD 4 (E0 mD) (F0 mD)).C i=([[(-1,0),(0,0),(1,0),(2,0)],[(0,0),(0,1),(1,0),(2,0),(2,1)],[(-1,1)],[(0,2)]]:List (List It)).getD i []:=fun i hi=>by
 show aP mD ((ag mD 4).ker.getD i [])=_;rw[aO.U_i4.1];have:i=0\/i=1\/i=2\/i=3:=by omega
 rcases this with rfl | rfl | rfl | rfl
 ·exact aO.U_c0
 ·exact aO.U_c1
 ·exact aO.U_c2
 ·exact aO.U_c3
def U_tab:List (List (List It)):=[[[(1,1)],[(2,1)]],[[(1,1)],[(2,1),(2,2)]],[[],[(3,0)]],[[],[(2,0)]]]
theorem U_deeds {A:Pl->Nat}(hL:LA mD 4 A):∀ i k,i<4->k<2->dS mD 4 A i k=(U_tab.getD i []).getD k []:=fun i k hi hk=>by
 rw[Lu aO.Md aO.BO hL U_lin hi (by show k<=1;omega),U_C i hi,aO.U_i4.2];have h1:i=0\/i=1\/i=2\/i=3:=by omega
 have h2:k=0\/k=1:=by omega
 rcases h1 with rfl | rfl | rfl | rfl<;>rcases h2 with rfl | rfl<;>decide
theorem U_cl {A:Pl->Nat}(hL:LA mD 4 A):jG (iW (dS mD 4 A)) 2 4=[(1,1)]:=by
 have h:∀ i k,i<4->k<2->iW (dS mD 4 A) i k=((U_tab.getD i []).getD k []).length:=fun i k hi hk=>by unfold iW;rw[U_deeds hL i k hi hk]
 simp only[jG,dW];rw[h 0 0 (by omega) (by omega),h 0 1 (by omega) (by omega),h 1 0 (by omega) (by omega),h 1 1 (by omega) (by omega),h 2 0 (by omega) (by omega),h 2 1 (by omega) (by omega),h 3 0 (by omega) (by omega),h 3 1 (by omega) (by omega)];decide
theorem yL {A:Pl->Nat}(hL:LA iE 4 A){i:Nat}{t:Int}(hi:i<4)(ht:t=63\/t=0):(mG iE 4 (dS iE 4 A)).act i t=(match ((G9.getD i []).getD (jE 1 t) []).head? with
  | none=>.wrong
  | some x=>if x.1=1 then .shift x.2.toNat else if x.1=2 then .red x.2 else .acc):=by
 show BN (dS iE 4 A) 1 i t=_;unfold BN;rw[if_pos (by rcases ht with rfl | rfl<;>decide)];have e:dS iE 4 A i (if t=63 then 1 else t.toNat)=(G9.getD i []).getD (jE 1 t) []:=xn hL i _ hi (by rcases ht with rfl | rfl<;>decide);rw[e];rfl
theorem MF {A:Pl->Nat}(hL:LA iE 4 A){i:Nat}{p:Int}{σ:List Nat}{j:Nat}{υ:List Nat}{q:Nat}(hi:i<4)(ha:(mG iE 4 (dS iE 4 A)).act i 63=.red p)(hd:(i::σ).drop (ax iE p).length=j::υ)(hq:ng iE [[1,2],[1,3],[-1,-1],[-1,-1]] (j:Int) (-1-bg iE p.toNat)=(q:Int)):LR.red (mG iE 4 (dS iE 4 A)) 63 (i::σ)=some (q::j::υ):=by
 have hd:(i::σ).drop ((mG iE 4 (dS iE 4 A)).rt p).length=j::υ:=hd;simp only[LR.red,ha,hd];have:(mG iE 4 (dS iE 4 A)).to j ((mG iE 4 (dS iE 4 A)).srt p)=q:=by
  show(ng iE (ag iE 4).nx (j:Int) (-1-bg iE p.toNat)).toNat=q;rw[aO.MH.2,hq];rfl
 rw[this]
theorem T_run1 {A:Pl->Nat}(hL:LA iE 4 A):LR.pG (mG iE 4 (dS iE 4 A)) (fun t=>0<=t/\t<((1:Nat):Int)) [0] [0,0] true []:=by
 have hn:∀ t∈([]:List Int).head?,0<=t/\t<((1:Nat):Int):=fun t ht=>by cases ht
 refine .shift 0 1 [] 0 [0] true [] (by decide) ((yL hL (by omega) (.inr rfl)).trans rfl) ?_;refine .shift 1 1 [0] 0 [] true [] (by decide) ((yL hL (by omega) (.inr rfl)).trans rfl) ?_;refine .red _ [3,1,1,0] [] true [] hn (MF hL (p:=1) (by omega) ((yL hL (by omega) (.inl rfl)).trans rfl) rfl (by decide)) ?_;refine .red _ [3,1,0] [] true [] hn (MF hL (p:=0) (by omega) ((yL hL (by omega) (.inl rfl)).trans rfl) rfl (by decide)) ?_;refine .red _ [2,0] [] true [] hn (MF hL (p:=0) (by omega) ((yL hL (by omega) (.inl rfl)).trans rfl) rfl (by decide)) ?_;exact .acc 2 [0] [] hn ((yL hL (by omega) (.inl rfl)).trans rfl)
theorem T_run2 {A:Pl->Nat}(hL:LA iE 4 A):LR.pG (mG iE 4 (dS iE 4 A)) (fun t=>0<=t/\t<((1:Nat):Int)) [0] [0,1] false [1]:=by
 refine .shift 0 1 [] 0 [1] false [1] (by decide) ((yL hL (by omega) (.inr rfl)).trans rfl) ?_;exact .bad _ 1 [] (by decide)
theorem T_one {A:Pl->Nat}(hL:LA iE 4 A):eF (dS iE 4 A 0) 2 2=[(1,1),(2,1)]/\jA (dS iE 4 A 0) 2 2=9223372036854775809:=by
 have h0:dS iE 4 A 0 0=[(1,1)]:=(xn hL 0 0 (by omega) (by omega)).trans (by decide);have h1:dS iE 4 A 0 1=[(2,1)]:=(xn hL 0 1 (by omega) (by omega)).trans (by decide);constructor
 ·unfold eF;show [if 0<2 then(dS iE 4 A 0 0).headD (0,0)else(0,0),if 1<2 then(dS iE 4 A 0 1).headD (0,0)else(0,0)]=_;rw[h0,h1];decide
 ·simp only[jA];rw[h0,h1];decide
end wQ
end Go.Proofs.YticmnfmijdgmbaaGreatDoor
