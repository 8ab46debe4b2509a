/- The document's example: the mathematics; the example's grammar, laid. -/
import Derived.Test.YticmnfmijdgmbaaGreatDoorQHs
import Derived.Test.YticmnfmijdgmbaaGreatDoorZp
set_option linter.unusedVariables false
set_option linter.unusedSimpArgs false
namespace Go.Proofs.X14
open Go.Proofs.YticmnfmijdgmbaaGreatDoor (GD PD validB)
theorem IsClose.of {G:GD} {l c:List It} (h1:Rise c) (h2:∀ x ∈ c,InC G l x) (h3:∀ x ∈ l,thereX G x=true->x ∈ c) (h4:∀ x ∈ c,∀ s,behX G x=some s->s < 0->∀ p,p < G.prods.length->sortX G p=-1 - s->((p:Int),0) ∈ c):IsClose G l c:=
 ⟨h1,fun x=>⟨h2 x,fun hx=>by
  induction hx with
  | base x hx ht=>exact h3 x hx ht
  | more x s p hx hb hs hp he ih=>exact h4 x ih s hb hs p hp he⟩⟩
def exG:GD:=⟨[⟨#[97]⟩],[],[⟨#[83]⟩],[⟨⟨#[112]⟩,0,[0],0⟩],0⟩
end Go.Proofs.X14
namespace Go.Proofs.YticmnfmijdgmbaaGreatDoor
open Go Go.RowKit Go.Lib
open X14 (It exG)
end Go.Proofs.YticmnfmijdgmbaaGreatDoor

namespace Go.Proofs.X14
open Go.Proofs.YticmnfmijdgmbaaGreatDoor (GD PD validB)
instance (a b:It):Decidable (Less a b):=by unfold Less; exact inferInstance
def certB (G:GD) (ker:List It):List It->List It->Bool
 | _,[]=>true
 | acc,x :: r=>((ker.contains x && thereX G x) || acc.any fun y=>match behX G y with
  | none=>false
  | some s=>decide (s < 0) && decide (x.2=0) && decide (0<=x.1) && decide (x.1.toNat < G.prods.length) && decide (sortX G x.1.toNat=-1 - s)) && certB G ker (acc ++ [x]) r
def closB (G:GD) (c:List It):Bool:=c.all fun x=>match behX G x with
 | none=>true
 | some s=>decide (0<=s) || (List.range G.prods.length).all fun p=>decide (sortX G p ≠ -1 - s) || c.contains ((p:Int),0)
theorem cert_in {G:GD} {ker:List It} : ∀ (d acc:List It),(∀ x ∈ acc,InC G ker x)->certB G ker acc d=true->∀ x ∈ d,InC G ker x
 | [],_,_,_,x,hx=>by cases hx
 | y :: d,acc,ha,h,x,hx=>by
  unfold certB at h
  rw [Bool.and_eq_true,Bool.or_eq_true,Bool.and_eq_true] at h
  have hy:InC G ker y:=by
   rcases h.1 with ⟨h1,h2⟩ | h1
   ·exact .base y (by simpa using h1) h2
   ·obtain ⟨z,hz,h2⟩:=List.any_eq_true.1 h1
    cases hb:behX G z with
    | none=>rw [hb] at h2; cases h2
    | some s =>
     rw [hb] at h2
     simp only [Bool.and_eq_true,decide_eq_true_eq] at h2
     obtain ⟨⟨⟨⟨a1,a2⟩,a3⟩,a4⟩,a5⟩:=h2
     have e:y=(((y.1.toNat:Nat):Int),0):=Prod.ext (by show y.1=((y.1.toNat:Nat):Int); omega) a2
     rw [e]
     exact .more z s y.1.toNat (ha z hz) hb a1 a4 a5
  rcases List.mem_cons.1 hx with e | e
  ·rw [e]; exact hy
  ·exact cert_in d (acc ++ [y]) (fun z hz=>by
    rcases List.mem_append.1 hz with h3 | h3
    ·exact ha z h3
    ·rw [List.mem_singleton.1 h3]; exact hy) h.2 x e
theorem close_of {G:GD} {ker c d:List It} (h1:Rise c) (h2:certB G ker [] d=true) (h3:∀ x ∈ c,x ∈ d) (h4:∀ x ∈ ker,x ∈ c) (h5:closB G c=true):closeX G ker=c:=by
 refine (closeX_eq (IsClose.of h1 (fun x hx=>cert_in d [] (fun x hx=>by cases hx) h2 x (h3 x hx)) (fun x hx _=>h4 x hx) fun x hx s hb hs p hp he=>?_)).symm
 have h6:=List.all_eq_true.1 h5 x hx
 rw [hb] at h6
 simp only [Bool.or_eq_true,decide_eq_true_eq] at h6
 have h7:=List.all_eq_true.1 (h6.resolve_left (by omega)) p (List.mem_range.2 hp)
 simp only [Bool.or_eq_true,decide_eq_true_eq] at h7
 rcases h7 with h7 | h7
 ·exact absurd he h7
 ·simpa using h7
def exT:GD:=⟨[⟨#[97]⟩],[],[⟨#[83]⟩],[⟨⟨#[112]⟩,0,[0,-1],0⟩,⟨⟨#[113]⟩,0,[],0⟩],0⟩
theorem T_valid:validB exT=true:=by decide +kernel
theorem T_c0:closeX exT [(-1,0)]=[(-1,0),(0,0),(1,0)]:=close_of (d:=[(-1,0),(0,0),(1,0)]) (by unfold Rise; decide) (by decide) (by decide) (by decide) (by decide)
theorem T_c1:closeX exT [(0,1)]=[(0,0),(0,1),(1,0)]:=close_of (d:=[(0,1),(0,0),(1,0)]) (by unfold Rise; decide) (by decide) (by decide) (by decide) (by decide)
theorem T_c2:closeX exT [(-1,1)]=[(-1,1)]:=close_of (d:=[(-1,1)]) (by unfold Rise; decide) (by decide) (by decide) (by decide) (by decide)
theorem T_c3:closeX exT [(0,2)]=[(0,2)]:=close_of (d:=[(0,2)]) (by unfold Rise; decide) (by decide) (by decide) (by decide) (by decide)
theorem T_i1:(iterB exT 1).ker=[[(-1,0)],[(0,1)],[(-1,1)]]/\(iterB exT 1).nx=[[1,2]]:=by
 obtain ⟨h1,h2⟩:=iter_succ exT 0
 have e:(iterB exT 0).ker.getD 0 []=[(-1,0)]:=rfl
 rw [e,T_c0] at h1 h2
 exact ⟨h1.trans (by decide),h2.trans (by decide)⟩
theorem T_i2:(iterB exT 2).ker=[[(-1,0)],[(0,1)],[(-1,1)],[(0,2)]]/\(iterB exT 2).nx=[[1,2],[1,3]]:=by
 obtain ⟨h1,h2⟩:=iter_succ exT 1
 have e:(iterB exT 1).ker.getD 1 []=[(0,1)]:=by rw [T_i1.1]; rfl
 rw [e,T_c1,T_i1.1] at h1 h2
 rw [T_i1.2] at h2
 exact ⟨h1.trans (by decide),h2.trans (by decide)⟩
theorem T_i3:(iterB exT 3).ker=[[(-1,0)],[(0,1)],[(-1,1)],[(0,2)]]/\(iterB exT 3).nx=[[1,2],[1,3],[-1,-1]]:=by
 obtain ⟨h1,h2⟩:=iter_succ exT 2
 have e:(iterB exT 2).ker.getD 2 []=[(-1,1)]:=by rw [T_i2.1]; rfl
 rw [e,T_c2,T_i2.1] at h1 h2
 rw [T_i2.2] at h2
 exact ⟨h1.trans (by decide),h2.trans (by decide)⟩
theorem T_i4:(iterB exT 4).ker=[[(-1,0)],[(0,1)],[(-1,1)],[(0,2)]]/\(iterB exT 4).nx=[[1,2],[1,3],[-1,-1],[-1,-1]]:=by
 obtain ⟨h1,h2⟩:=iter_succ exT 3
 have e:(iterB exT 3).ker.getD 3 []=[(0,2)]:=by rw [T_i3.1]; rfl
 rw [e,T_c3,T_i3.1] at h1 h2
 rw [T_i3.2] at h2
 exact ⟨h1.trans (by decide),h2.trans (by decide)⟩
theorem T_ok:BuiltOk exT 4:=by
 refine ⟨⟨fun m hm=>?_,fun m hm=>?_⟩,by rw [T_i4.1]; decide⟩
 ·have:m=0\/m=1\/m=2\/m=3:=by omega
  rcases this with rfl | rfl | rfl | rfl
  ·show 0 < 1; omega
  ·rw [T_i1.1]; decide
  ·rw [T_i2.1]; decide
  ·rw [T_i3.1]; decide
 ·have:m=0\/m=1\/m=2\/m=3:=by omega
  rcases this with rfl | rfl | rfl | rfl
  ·rw [T_i1.1]; decide
  ·rw [T_i2.1]; decide
  ·rw [T_i3.1]; decide
  ·rw [T_i4.1]; decide
def exU:GD:=⟨[⟨#[97]⟩],[],[⟨#[83]⟩],[⟨⟨#[112]⟩,0,[0,-1],0⟩,⟨⟨#[113]⟩,0,[],0⟩,⟨⟨#[114]⟩,0,[0],0⟩],0⟩
theorem U_valid:validB exU=true:=by decide +kernel
theorem U_c0:closeX exU [(-1,0)]=[(-1,0),(0,0),(1,0),(2,0)]:=close_of (d:=[(-1,0),(0,0),(1,0),(2,0)]) (by unfold Rise; decide) (by decide) (by decide) (by decide) (by decide)
theorem U_c1:closeX exU [(0,1),(2,1)]=[(0,0),(0,1),(1,0),(2,0),(2,1)]:=close_of (d:=[(0,1),(2,1),(0,0),(1,0),(2,0)]) (by unfold Rise; decide) (by decide) (by decide) (by decide) (by decide)
theorem U_c2:closeX exU [(-1,1)]=[(-1,1)]:=close_of (d:=[(-1,1)]) (by unfold Rise; decide) (by decide) (by decide) (by decide) (by decide)
theorem U_c3:closeX exU [(0,2)]=[(0,2)]:=close_of (d:=[(0,2)]) (by unfold Rise; decide) (by decide) (by decide) (by decide) (by decide)
theorem U_i1:(iterB exU 1).ker=[[(-1,0)],[(0,1),(2,1)],[(-1,1)]]/\(iterB exU 1).nx=[[1,2]]:=by
 obtain ⟨h1,h2⟩:=iter_succ exU 0
 have e:(iterB exU 0).ker.getD 0 []=[(-1,0)]:=rfl
 rw [e,U_c0] at h1 h2
 exact ⟨h1.trans (by decide),h2.trans (by decide)⟩
theorem U_i2:(iterB exU 2).ker=[[(-1,0)],[(0,1),(2,1)],[(-1,1)],[(0,2)]]/\(iterB exU 2).nx=[[1,2],[1,3]]:=by
 obtain ⟨h1,h2⟩:=iter_succ exU 1
 have e:(iterB exU 1).ker.getD 1 []=[(0,1),(2,1)]:=by rw [U_i1.1]; rfl
 rw [e,U_c1,U_i1.1] at h1 h2
 rw [U_i1.2] at h2
 exact ⟨h1.trans (by decide),h2.trans (by decide)⟩
theorem U_i3:(iterB exU 3).ker=[[(-1,0)],[(0,1),(2,1)],[(-1,1)],[(0,2)]]/\(iterB exU 3).nx=[[1,2],[1,3],[-1,-1]]:=by
 obtain ⟨h1,h2⟩:=iter_succ exU 2
 have e:(iterB exU 2).ker.getD 2 []=[(-1,1)]:=by rw [U_i2.1]; rfl
 rw [e,U_c2,U_i2.1] at h1 h2
 rw [U_i2.2] at h2
 exact ⟨h1.trans (by decide),h2.trans (by decide)⟩
theorem U_i4:(iterB exU 4).ker=[[(-1,0)],[(0,1),(2,1)],[(-1,1)],[(0,2)]]/\(iterB exU 4).nx=[[1,2],[1,3],[-1,-1],[-1,-1]]:=by
 obtain ⟨h1,h2⟩:=iter_succ exU 3
 have e:(iterB exU 3).ker.getD 3 []=[(0,2)]:=by rw [U_i3.1]; rfl
 rw [e,U_c3,U_i3.1] at h1 h2
 rw [U_i3.2] at h2
 exact ⟨h1.trans (by decide),h2.trans (by decide)⟩
theorem U_ok:BuiltOk exU 4:=by
 refine ⟨⟨fun m hm=>?_,fun m hm=>?_⟩,by rw [U_i4.1]; decide⟩
 ·have:m=0\/m=1\/m=2\/m=3:=by omega
  rcases this with rfl | rfl | rfl | rfl
  ·show 0 < 1; omega
  ·rw [U_i1.1]; decide
  ·rw [U_i2.1]; decide
  ·rw [U_i3.1]; decide
 ·have:m=0\/m=1\/m=2\/m=3:=by omega
  rcases this with rfl | rfl | rfl | rfl
  ·rw [U_i1.1]; decide
  ·rw [U_i2.1]; decide
  ·rw [U_i3.1]; decide
  ·rw [U_i4.1]; decide
end Go.Proofs.X14
namespace Go.Proofs.YticmnfmijdgmbaaGreatDoor
open X14 (It exT exU iterB BuiltOk closeX rightX behX sortX InC stepX symsX)
open S13 (bitN top E0 F0 Sub)
open S13.X15 (Pl LeastA askX places cxB mem_places mem_C askX_some askX_none needX_mem restX fstX nulX)
namespace S16
theorem lin_A {G:GD} {n:Nat} {A:Pl->Nat} (hO:BuiltOk G n) (hV:validB G=true) (hL:LA G n A) (hlin:∀ x s,behX G x=some s->s < 0->restX G x=[]):∀ i x,i < n->x ∈ (cxB G n (E0 G) (F0 G)).C i->A (i,x)=bitN 63:=by
 have up:∀ i x,i < n->x ∈ (cxB G n (E0 G) (F0 G)).C i->Sub (A (i,x)) (bitN 63):=fun i x hi hx=>by
  refine hL.least (fun _=>bitN 63) (fun p hp e he=>?_) (S13.sub_refl _) _ (mem_places.2 ⟨hi,hx⟩)
  cases hb:behX G p.2 with
  | none=>rw [askX_none (show behX (cxB G n (E0 G) (F0 G)).G p.2=none from hb)] at he; cases he
  | some s =>
   rw [askX_some (show behX (cxB G n (E0 G) (F0 G)).G p.2=some s from hb)] at he
   rcases List.mem_cons.1 he with e1 | e1
   ·subst e1; exact S13.sub_refl _
   ·by_cases hs:s < 0
    ·rw [if_pos hs] at e1
     obtain ⟨q,h3,h4,rfl⟩:=needX_mem.1 e1
     have hr:restX (cxB G n (E0 G) (F0 G)).G p.2=[]:=hlin _ _ hb hs
     unfold S13.X15.fstX S13.X15.nulX
     rw [hr]
     show Sub (0 ||| bitN 63) (bitN 63)
     rw [Nat.zero_or]
     exact S13.sub_refl _
    ·rw [if_neg hs] at e1; cases e1
 have lo:∀ i,i < n->∀ x,x ∈ (cxB G n (E0 G) (F0 G)).C i->Sub (bitN 63) (A (i,x)):=by
  obtain ⟨hI,ha,hl⟩:=hO.inv
  intro i
  induction i using Nat.strongRecOn with
  | _ i ih =>
   intro hi x hx
   have hin:=mem_C.1 hx
   induction hin with
   | base x hk ht =>
    rcases Nat.eq_zero_or_pos i with e | e
    ·subst e
     rw [X14.getD_get hI.first] at hk
     rw [List.mem_singleton.1 hk]
     exact hL.start
    ·obtain ⟨j,k,R,a1,a2,a3,a4,a5⟩:=hI.come i e (by omega)
     obtain ⟨s,hs⟩:∃ s,(symsX G)[k]?=some s:=⟨_,geQ a5⟩
     rcases hI.to_ a1 hs a3 a4 with ⟨e1,_⟩ | ⟨q,e1,_,_,e4⟩
     ·omega
     ·obtain rfl:i=q:=by omega
      rw [X14.getD_get e4] at hk
      obtain ⟨y,hy,hb,rfl⟩:=X14.mem_step.1 hk
      have hg:goX G (iterB G n).nx (j:Int) s=(i:Int):=goX_at (sym_place hs) a3 a4
      have ht:(cxB G n (E0 G) (F0 G)).to j s=i:=by show (goX G (iterB G n).nx (j:Int) s).toNat=i; rw [hg]; rfl
      have h1:=S13.X15.LeastA.goto_ hL (i:=j) (by omega) (show y ∈ (cxB G n (E0 G) (F0 G)).C j from hy) hb
      rw [ht] at h1
      exact S13.sub_trans (ih j a2 (by omega) y hy) h1
   | more x s p h hb hs hp he ihx =>
    have hxC:x ∈ (cxB G n (E0 G) (F0 G)).C i:=mem_C.2 h
    have h1:=S13.X15.LeastA.more hL hi hxC hb hs hp he
    have hr:restX (cxB G n (E0 G) (F0 G)).G x=[]:=hlin _ _ hb hs
    rw [hr] at h1
    exact S13.sub_trans (ihx hxC) h1
 exact fun i x hi hx=>S13.sub_antisymm (up i x hi hx) (lo i hi x hx)
def doneC (G:GD) (l:List It) (m:Nat):List Int:=((List.range m).filter fun i=>decide ((l.getD i (0,0)).2=((rightX G (l.getD i (0,0)).1).length:Int))).map fun i=>(l.getD i (0,0)).1
theorem done_c {G:GD} {l:List It} {us:List Nat} (hl:us.length=l.length) (hu:∀ u ∈ us,u ≠ 0) (hc:closeX G l=l):doneN G l us l.length=doneC G l l.length:=by
 unfold doneN doneC
 congr 1
 refine List.filter_congr fun i hi=>?_
 have hi:i < l.length:=List.mem_range.1 hi
 unfold doneB
 rw [decide_eq_decide]
 refine ⟨fun h=>h.2.2.2,fun h=>⟨by omega,?_,?_,h⟩⟩
 ·rw [gdQ,geQ (by omega)]
  exact hu _ (List.getElem_mem _)
 ·rw [hc,gdQ,geQ hi]
  exact List.getElem_mem _
theorem flat_end {B:Nat} {z:Int} (hB:S13.hasN B z=true) (f:Int->Nat):∀ (P:List Int),(∀ p ∈ P,f p=B)->(P.map fun p=>(p,f p)).flatMap (one1 z)=P.map fun p=>if p < 0 then ((3:Int),(0:Int)) else (2,p)
 | [],_=>rfl
 | p :: P,h=>by
  rw [List.map_cons,List.flatMap_cons,List.map_cons,flat_end hB f P fun q hq=>h q (List.mem_cons_of_mem _ hq),h p List.mem_cons_self]
  unfold one1
  rw [if_pos hB]
  by_cases hp:p < 0
  ·rw [if_pos hp,if_pos hp]; rfl
  ·rw [if_neg hp,if_neg hp]; rfl
theorem flat_off {B:Nat} {z:Int} (hB:S13.hasN B z=false) (f:Int->Nat):∀ (P:List Int),(∀ p ∈ P,f p=B)->(P.map fun p=>(p,f p)).flatMap (one1 z)=[]
 | [],_=>rfl
 | p :: P,h=>by
  rw [List.map_cons,List.flatMap_cons,flat_off hB f P fun q hq=>h q (List.mem_cons_of_mem _ hq),h p List.mem_cons_self]
  unfold one1
  rw [if_neg (by rw [hB]; exact Bool.false_ne_true)]
  rfl
theorem b63:bitN 63 ≠ 0:=fun h=>by
 have:=S13.X15.end_bit
 rw [h] at this
 simp at this
theorem has63:S13.hasN (bitN 63) 63=true:=(has_bit _ (by omega) (by omega)).2 S13.X15.end_bit
def deedC (G:GD) (nx:List (List Int)) (l:List It) (i k:Nat):List It:=goOf G nx (i:Int) k ++ if k=G.terms.length then (doneC G l l.length).map fun p=>if p < 0 then (3,0) else (2,p) else []
theorem deed_c {G:GD} {n:Nat} {A:Pl->Nat} (hO:BuiltOk G n) (hV:validB G=true) (hL:LA G n A) (hlin:∀ x s,behX G x=some s->s < 0->restX G x=[]) {i k:Nat} (hi:i < n) (hk:k<=G.terms.length):dS G n A i k=deedC G (iterB G n).nx ((cxB G n (E0 G) (F0 G)).C i) i k:=by
 have hA:=lin_A hO hV hL hlin
 have h60:=(S13.valid_few hV).1
 have hcl:closeX G ((cxB G n (E0 G) (F0 G)).C i)=(cxB G n (E0 G) (F0 G)).C i:=X14.closeX_again G _
 have hus:((cxB G n (E0 G) (F0 G)).C i).map (fun x=>A (i,x))=((cxB G n (E0 G) (F0 G)).C i).map fun _=>bitN 63:=List.map_congr_left fun x hx=>hA i x hi hx
 unfold dS deedsS deedsX deedC passedX
 rw [hus,done_c (by simp) (fun u hu=>by
  obtain ⟨_,_,rfl⟩:=List.mem_map.1 hu
  exact b63) hcl]
 congr 1
 have hp:∀ p ∈ doneC G ((cxB G n (E0 G) (F0 G)).C i) ((cxB G n (E0 G) (F0 G)).C i).length,(fun p=>(((cxB G n (E0 G) (F0 G)).C i).map fun _=>bitN 63).getD (ixN (p,((rightX G p).length:Int)) ((cxB G n (E0 G) (F0 G)).C i)) 0) p=bitN 63:=fun p hp=>by
  unfold doneC at hp
  obtain ⟨j,hj,rfl⟩:=List.mem_map.1 hp
  obtain ⟨h1,h2⟩:=List.mem_filter.1 hj
  have h2:=of_decide_eq_true h2
  have hjl:j < ((cxB G n (E0 G) (F0 G)).C i).length:=List.mem_range.1 h1
  dsimp only
  rw [<-h2]
  have hm:((cxB G n (E0 G) (F0 G)).C i).getD j (0,0) ∈ (cxB G n (E0 G) (F0 G)).C i:=by rw [gdQ,geQ hjl]; exact List.getElem_mem _
  have h3:=ixN_get hm
  rw [gdQ,List.getElem?_map,h3,Option.map_some,Option.getD_some]
 have hno:k ≠ G.terms.length->S13.hasN (bitN 63) (k:Int)=false:=fun hk2=>by
  refine Bool.eq_false_iff.2 fun h=>?_
  rw [has_bit _ (by omega) (by omega),S13.testBit_bitN] at h
  have:=of_decide_eq_true h
  omega
 by_cases hkT:k=G.terms.length
 ·rw [if_pos hkT,if_pos hkT]
  exact flat_end has63 _ _ hp
 ·rw [if_neg hkT,if_neg hkT]
  exact flat_off (hno hkT) _ _ hp
theorem T_lin:∀ x s,behX exT x=some s->s < 0->restX exT x=[]:=fun x s hb hs=>by
 have hm:=X14.mem_allI (X14.beh_there hb)
 have key:(X14.allI exT).all (fun x=>match behX exT x with
  | none=>true
  | some s=>decide (0<=s) || (restX exT x).isEmpty)=true:=by decide
 have h1:=List.all_eq_true.1 key x hm
 rw [hb] at h1
 simp only [Bool.or_eq_true,decide_eq_true_eq] at h1
 exact List.isEmpty_iff.1 (h1.resolve_left (by omega))
theorem T_C:∀ i,i < 4->(cxB exT 4 (E0 exT) (F0 exT)).C i=([[(-1,0),(0,0),(1,0)],[(0,0),(0,1),(1,0)],[(-1,1)],[(0,2)]]:List (List It)).getD i []:=fun i hi=>by
 show closeX exT ((iterB exT 4).ker.getD i [])=_
 rw [X14.T_i4.1]
 have:i=0\/i=1\/i=2\/i=3:=by omega
 rcases this with rfl | rfl | rfl | rfl
 ·exact X14.T_c0
 ·exact X14.T_c1
 ·exact X14.T_c2
 ·exact X14.T_c3
def T_tab:List (List (List It)):=[[[(1,1)],[(2,1)]],[[(1,1)],[(2,1)]],[[],[(3,0)]],[[],[(2,0)]]]
theorem T_deeds {A:Pl->Nat} (hL:LA exT 4 A):∀ i k,i < 4->k < 2->dS exT 4 A i k=(T_tab.getD i []).getD k []:=fun i k hi hk=>by
 rw [deed_c X14.T_ok X14.T_valid hL T_lin hi (by show k<=1; omega),T_C i hi,X14.T_i4.2]
 have h1:i=0\/i=1\/i=2\/i=3:=by omega
 have h2:k=0\/k=1:=by omega
 rcases h1 with rfl | rfl | rfl | rfl <;> rcases h2 with rfl | rfl <;> decide
theorem T_cl {A:Pl->Nat} (hL:LA exT 4 A):clX (cntS (dS exT 4 A)) 2 4=[]:=by
 have h:∀ i k,i < 4->k < 2->cntS (dS exT 4 A) i k=((T_tab.getD i []).getD k []).length:=fun i k hi hk=>by unfold cntS; rw [T_deeds hL i k hi hk]
 simp only [clX,clRow]
 rw [h 0 0 (by omega) (by omega),h 0 1 (by omega) (by omega),h 1 0 (by omega) (by omega),h 1 1 (by omega) (by omega),h 2 0 (by omega) (by omega),h 2 1 (by omega) (by omega),h 3 0 (by omega) (by omega),h 3 1 (by omega) (by omega)]
 decide
theorem U_lin:∀ x s,behX exU x=some s->s < 0->restX exU x=[]:=fun x s hb hs=>by
 have hm:=X14.mem_allI (X14.beh_there hb)
 have key:(X14.allI exU).all (fun x=>match behX exU x with
  | none=>true
  | some s=>decide (0<=s) || (restX exU x).isEmpty)=true:=by decide
 have h1:=List.all_eq_true.1 key x hm
 rw [hb] at h1
 simp only [Bool.or_eq_true,decide_eq_true_eq] at h1
 exact List.isEmpty_iff.1 (h1.resolve_left (by omega))
theorem U_C:∀ i,i < 4->(cxB exU 4 (E0 exU) (F0 exU)).C i=([[(-1,0),(0,0),(1,0),(2,0)],[(0,0),(0,1),(1,0),(2,0),(2,1)],[(-1,1)],[(0,2)]]:List (List It)).getD i []:=fun i hi=>by
 show closeX exU ((iterB exU 4).ker.getD i [])=_
 rw [X14.U_i4.1]
 have:i=0\/i=1\/i=2\/i=3:=by omega
 rcases this with rfl | rfl | rfl | rfl
 ·exact X14.U_c0
 ·exact X14.U_c1
 ·exact X14.U_c2
 ·exact X14.U_c3
def U_tab:List (List (List It)):=[[[(1,1)],[(2,1)]],[[(1,1)],[(2,1),(2,2)]],[[],[(3,0)]],[[],[(2,0)]]]
theorem U_deeds {A:Pl->Nat} (hL:LA exU 4 A):∀ i k,i < 4->k < 2->dS exU 4 A i k=(U_tab.getD i []).getD k []:=fun i k hi hk=>by
 rw [deed_c X14.U_ok X14.U_valid hL U_lin hi (by show k<=1; omega),U_C i hi,X14.U_i4.2]
 have h1:i=0\/i=1\/i=2\/i=3:=by omega
 have h2:k=0\/k=1:=by omega
 rcases h1 with rfl | rfl | rfl | rfl <;> rcases h2 with rfl | rfl <;> decide
theorem U_cl {A:Pl->Nat} (hL:LA exU 4 A):clX (cntS (dS exU 4 A)) 2 4=[(1,1)]:=by
 have h:∀ i k,i < 4->k < 2->cntS (dS exU 4 A) i k=((U_tab.getD i []).getD k []).length:=fun i k hi hk=>by unfold cntS; rw [U_deeds hL i k hi hk]
 simp only [clX,clRow]
 rw [h 0 0 (by omega) (by omega),h 0 1 (by omega) (by omega),h 1 0 (by omega) (by omega),h 1 1 (by omega) (by omega),h 2 0 (by omega) (by omega),h 2 1 (by omega) (by omega),h 3 0 (by omega) (by omega),h 3 1 (by omega) (by omega)]
 decide
theorem T_act {A:Pl->Nat} (hL:LA exT 4 A) {i:Nat} {t:Int} (hi:i < 4) (ht:t=63\/t=0):(mG exT 4 (dS exT 4 A)).act i t=(match ((T_tab.getD i []).getD (colX 1 t) []).head? with
  | none=>.wrong
  | some x=>if x.1=1 then .shift x.2.toNat else if x.1=2 then .red x.2 else .acc):=by
 show actX (dS exT 4 A) 1 i t=_
 unfold actX
 rw [if_pos (by rcases ht with rfl | rfl <;> decide)]
 have e:dS exT 4 A i (if t=63 then 1 else t.toNat)=(T_tab.getD i []).getD (colX 1 t) []:=T_deeds hL i _ hi (by rcases ht with rfl | rfl <;> decide)
 rw [e]
 rfl
theorem T_red {A:Pl->Nat} (hL:LA exT 4 A) {i:Nat} {p:Int} {σ:List Nat} {j:Nat} {υ:List Nat} {q:Nat} (hi:i < 4) (ha:(mG exT 4 (dS exT 4 A)).act i 63=.red p) (hd:(i :: σ).drop (rightX exT p).length=j :: υ) (hq:goX exT [[1,2],[1,3],[-1,-1],[-1,-1]] (j:Int) (-1 - sortX exT p.toNat)=(q:Int)):LR.red (mG exT 4 (dS exT 4 A)) 63 (i :: σ)=some (q :: j :: υ):=by
 have hd:(i :: σ).drop ((mG exT 4 (dS exT 4 A)).rt p).length=j :: υ:=hd
 simp only [LR.red,ha,hd]
 have:(mG exT 4 (dS exT 4 A)).to j ((mG exT 4 (dS exT 4 A)).srt p)=q:=by
  show (goX exT (iterB exT 4).nx (j:Int) (-1 - sortX exT p.toNat)).toNat=q
  rw [X14.T_i4.2,hq]
  rfl
 rw [this]
theorem T_run1 {A:Pl->Nat} (hL:LA exT 4 A):LR.Runs (mG exT 4 (dS exT 4 A)) (fun t=>0<=t/\t < ((1:Nat):Int)) [0] [0,0] true []:=by
 have hn:∀ t ∈ ([]:List Int).head?,0<=t/\t < ((1:Nat):Int):=fun t ht=>by cases ht
 refine .shift 0 1 [] 0 [0] true [] (by decide) ((T_act hL (by omega) (.inr rfl)).trans rfl) ?_
 refine .shift 1 1 [0] 0 [] true [] (by decide) ((T_act hL (by omega) (.inr rfl)).trans rfl) ?_
 refine .red _ [3,1,1,0] [] true [] hn (T_red hL (p:=1) (by omega) ((T_act hL (by omega) (.inl rfl)).trans rfl) rfl (by decide)) ?_
 refine .red _ [3,1,0] [] true [] hn (T_red hL (p:=0) (by omega) ((T_act hL (by omega) (.inl rfl)).trans rfl) rfl (by decide)) ?_
 refine .red _ [2,0] [] true [] hn (T_red hL (p:=0) (by omega) ((T_act hL (by omega) (.inl rfl)).trans rfl) rfl (by decide)) ?_
 exact .acc 2 [0] [] hn ((T_act hL (by omega) (.inl rfl)).trans rfl)
theorem T_run2 {A:Pl->Nat} (hL:LA exT 4 A):LR.Runs (mG exT 4 (dS exT 4 A)) (fun t=>0<=t/\t < ((1:Nat):Int)) [0] [0,1] false [1]:=by
 refine .shift 0 1 [] 0 [1] false [1] (by decide) ((T_act hL (by omega) (.inr rfl)).trans rfl) ?_
 exact .bad _ 1 [] (by decide)
theorem T_one {A:Pl->Nat} (hL:LA exT 4 A):onlyX (dS exT 4 A 0) 2 2=[(1,1),(2,1)]/\mayX (dS exT 4 A 0) 2 2=9223372036854775809:=by
 have h0:dS exT 4 A 0 0=[(1,1)]:=(T_deeds hL 0 0 (by omega) (by omega)).trans (by decide)
 have h1:dS exT 4 A 0 1=[(2,1)]:=(T_deeds hL 0 1 (by omega) (by omega)).trans (by decide)
 constructor
 ·unfold onlyX
  show [if 0 < 2 then (dS exT 4 A 0 0).headD (0,0) else (0,0),if 1 < 2 then (dS exT 4 A 0 1).headD (0,0) else (0,0)]=_
  rw [h0,h1]
  decide
 ·simp only [mayX]
  rw [h0,h1]
  decide
end S16
end Go.Proofs.YticmnfmijdgmbaaGreatDoor
