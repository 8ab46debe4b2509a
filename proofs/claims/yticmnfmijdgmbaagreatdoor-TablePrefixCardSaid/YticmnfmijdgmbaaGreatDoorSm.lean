/- Items: the mathematics. -/
import Derived.Test.YticmnfmijdgmbaaGreatDoorGa
set_option linter.unusedVariables false
set_option linter.unusedSimpArgs false
open Go.Proofs.YticmnfmijdgmbaaGreatDoor (GD PD)
namespace Go.Proofs.X14
abbrev It:=Int × Int
def rightX (G:GD) (p:Int):List Int:=if p=-1 then [-1 - G.start] else (G.prods.getD p.toNat default).rs
def thereX (G:GD) (x:It):Bool:=decide (-1<=x.1/\x.1 < (G.prods.length:Int)/\0<=x.2/\x.2<=((rightX G x.1).length:Int))
theorem there_iff {G:GD} {x:It} : thereX G x=true ↔ -1<=x.1/\x.1 < (G.prods.length:Int)/\0<=x.2/\x.2<=((rightX G x.1).length:Int):=decide_eq_true_iff
def behX (G:GD) (x:It):Option Int:=if thereX G x=true then (rightX G x.1)[x.2.toNat]? else none
theorem beh_there {G:GD} {x:It} {s:Int} (h:behX G x=some s):thereX G x=true:=by
 unfold behX at h
 split at h
 ·assumption
 ·cases h
def sortX (G:GD) (p:Nat):Int:=(G.prods.getD p default).sort
inductive InC (G:GD) (l:List It):It->Prop
 | base (x:It) (h:x ∈ l) (ht:thereX G x=true):InC G l x
 | more (x:It) (s:Int) (p:Nat) (h:InC G l x) (hb:behX G x=some s) (hs:s < 0) (hp:p < G.prods.length) (he:sortX G p=-1 - s):InC G l ((p:Int),0)
theorem first_there {G:GD} {p:Nat} (hp:p < G.prods.length):thereX G ((p:Int),0)=true:=there_iff.2 ⟨by show (-1:Int)<=p; omega,by show (p:Int) < _; omega,Int.le_refl _,Int.natCast_nonneg _⟩
theorem InC.there {G:GD} {l:List It} {x:It} (h:InC G l x):thereX G x=true:=by
 cases h with
 | base _ _ ht=>exact ht
 | more _ _ _ _ _ _ hp _=>exact first_there hp
def Less (a b:It):Prop:=a.1 < b.1\/a.1=b.1/\a.2 < b.2
theorem Less.trans {a b c:It} (h:Less a b) (g:Less b c):Less a c:=by unfold Less at *; omega
theorem Less.irrefl {a:It} : ¬ Less a a:=by unfold Less; omega
theorem Less.total {a b:It} (h:¬ Less a b) (g:¬ Less b a):a=b:=by
 unfold Less at *
 exact Prod.ext (by omega) (by omega)
def Rise (l:List It):Prop:=l.Pairwise Less
theorem Rise.eq:∀ {a b:List It},Rise a->Rise b->(∀ x,x ∈ a ↔ x ∈ b)->a=b
 | [],[],_,_,_=>rfl
 | [],y :: b,_,_,h=>absurd ((h y).2 (by simp)) (by simp)
 | x :: a,[],_,_,h=>absurd ((h x).1 (by simp)) (by simp)
 | x :: a,y :: b,ha,hb,h=>by
  obtain ⟨ha1,ha2⟩:=List.pairwise_cons.1 ha
  obtain ⟨hb1,hb2⟩:=List.pairwise_cons.1 hb
  have hxy:x=y:=by
   rcases List.mem_cons.1 ((h x).1 (by simp)) with e | e
   ·exact e
   ·rcases List.mem_cons.1 ((h y).2 (by simp)) with e' | e'
    ·exact e'.symm
    ·exact absurd ((hb1 x e).trans (ha1 y e')) Less.irrefl
  subst hxy
  have:a=b:=Rise.eq ha2 hb2 fun z=>by
   constructor
   ·intro hz
    rcases List.mem_cons.1 ((h z).1 (by simp [hz])) with e | e
    ·exact absurd (ha1 z hz) (by rw [e]; exact Less.irrefl)
    ·exact e
   ·intro hz
    rcases List.mem_cons.1 ((h z).2 (by simp [hz])) with e | e
    ·exact absurd (hb1 z hz) (by rw [e]; exact Less.irrefl)
    ·exact e
  rw [this]
def IsClose (G:GD) (l c:List It):Prop:=Rise c/\∀ x,x ∈ c ↔ InC G l x
theorem IsClose.one {G:GD} {l c d:List It} (h:IsClose G l c) (g:IsClose G l d):c=d:=h.1.eq g.1 fun x=>(h.2 x).trans (g.2 x).symm
theorem IsClose.again {G:GD} {l c:List It} (h:IsClose G l c):IsClose G c c:=⟨h.1,fun x=>⟨fun hx=>.base x hx ((h.2 x).1 hx).there,fun hx=>by
 induction hx with
 | base x hx _=>exact hx
 | more x s p _ hb hs hp he ih=>exact (h.2 _).2 (.more x s p ((h.2 x).1 ih) hb hs hp he)⟩⟩
theorem InC.same {G:GD} {l m:List It} (h:∀ x,thereX G x=true->(x ∈ l ↔ x ∈ m)) {x:It} (hx:InC G l x):InC G m x:=by
 induction hx with
 | base x hx ht=>exact .base x ((h x ht).1 hx) ht
 | more x s p _ hb hs hp he ih=>exact .more x s p ih hb hs hp he
def stepX (G:GD) (c:List It) (s:Int):List It:=(c.filter fun x=>behX G x == some s).map fun x=>(x.1,x.2 + 1)
structure Clos (G:GD) (l out:List It) (begun:Nat->Bool) (i:Nat):Prop where
 inn:∀ x ∈ out,InC G l x
 base:∀ x ∈ l,thereX G x=true->x ∈ out
 all:∀ t p,begun t=true->p < G.prods.length->sortX G p=(t:Int)->((p:Int),0) ∈ out
 done:∀ j x s,j < i->out[j]?=some x->behX G x=some s->s < 0->begun (-1 - s).toNat=true
theorem Clos.close {G:GD} {l out:List It} {begun:Nat->Bool} {i:Nat} (h:Clos G l out begun i) (hi:out.length<=i) (x:It):x ∈ out ↔ InC G l x:=by
 refine ⟨h.inn x,fun hx=>?_⟩
 induction hx with
 | base x hx ht=>exact h.base x hx ht
 | more x s p hx hb hs hp he ih =>
  obtain ⟨j,hj,e⟩:=List.mem_iff_getElem.1 ih
  have:=h.done j x s (by omega) (by rw [geQ hj,e]) hb hs
  exact h.all _ p this hp (by rw [he]; omega)
theorem Clos.skip {G:GD} {l out:List It} {begun:Nat->Bool} {i:Nat} {x:It} (h:Clos G l out begun i) (hx:out[i]?=some x) (hn:∀ s,behX G x=some s->s < 0->begun (-1 - s).toNat=true):Clos G l out begun (i + 1):=
 ⟨h.inn,h.base,h.all,fun j y s hj hy hb hs=>by
  by_cases hji:j < i
  ·exact h.done j y s hji hy hb hs
  ·obtain rfl:j=i:=by omega
   rw [hx] at hy
   injection hy with hy
   subst hy
   exact hn s hb hs⟩
def beginX (G:GD) (t:Nat) (n:Nat):List It:=((List.range n).filter fun p=>sortX G p == (t:Int)).map fun p:Nat=>((p:Int),(0:Int))
theorem beginX_succ (G:GD) (t n:Nat):beginX G t (n + 1)=beginX G t n ++ if sortX G n=(t:Int) then [((n:Int),0)] else []:=by
 unfold beginX
 rw [List.range_succ,List.filter_append,List.map_append]
 congr 1
 by_cases h:sortX G n=(t:Int)
 ·simp [h]
 ·simp [h]
theorem mem_beginX {G:GD} {t n:Nat} {x:It} : x ∈ beginX G t n ↔ ∃ p:Nat,p < n/\sortX G p=(t:Int)/\x=((p:Int),0):=by
 unfold beginX
 simp only [List.mem_map,List.mem_filter,List.mem_range,beq_iff_eq]
 constructor
 ·rintro ⟨p,⟨h1,h2⟩,rfl⟩; exact ⟨p,h1,h2,rfl⟩
 ·rintro ⟨p,h1,h2,rfl⟩; exact ⟨p,⟨h1,h2⟩,rfl⟩
theorem Clos.begin_ {G:GD} {l out:List It} {begun:Nat->Bool} {i t:Nat} {x:It} (h:Clos G l out begun i) (hx:out[i]?=some x) (hb:behX G x=some (-1 - (t:Int))) :
  Clos G l (out ++ beginX G t G.prods.length) (fun k=>if k=t then true else begun k) (i + 1):=by
 have hin:InC G l x:=h.inn x (List.mem_of_getElem? hx)
 have hlt:=(List.getElem?_eq_some_iff.1 hx).1
 refine ⟨fun y hy=>?_,fun y hy ht=>List.mem_append_left _ (h.base y hy ht),fun k p hk hp he=>?_,fun j y s hj hy hbe hs=>?_⟩
 ·rcases List.mem_append.1 hy with hy | hy
  ·exact h.inn y hy
  ·obtain ⟨p,hp,he,rfl⟩:=mem_beginX.1 hy
   exact .more x _ p hin hb (by omega) hp (by omega)
 ·by_cases hkt:k=t
  ·subst hkt
   exact List.mem_append_right _ (mem_beginX.2 ⟨p,hp,he,rfl⟩)
  ·rw [if_neg hkt] at hk
   exact List.mem_append_left _ (h.all k p hk hp he)
 ·rw [List.getElem?_append_left (by omega)] at hy
  show (if _ then _ else _)=true
  by_cases hji:j < i
  ·have:=h.done j y s hji hy hbe hs
   split
   ·rfl
   ·exact this
  ·obtain rfl:j=i:=by omega
   rw [hx] at hy
   injection hy with hy
   subst hy
   rw [hb] at hbe
   injection hbe with hbe
   rw [if_pos (by omega)]
def allI (G:GD):List It:=(List.range (G.prods.length + 1)).flatMap fun q:Nat=>(List.range ((rightX G ((q:Int) - 1)).length + 1)).map fun d:Nat=>((q:Int) - 1,(d:Int))
theorem allI_rise (G:GD):Rise (allI G):=by
 unfold allI Rise
 rw [List.pairwise_flatMap]
 refine ⟨fun q _=>?_,?_⟩
 ·rw [List.pairwise_map]
  exact List.pairwise_lt_range.imp fun {a b} h=>by unfold Less; show _\/(q:Int) - 1=(q:Int) - 1/\(a:Int) < (b:Int); omega
 ·refine List.pairwise_lt_range.imp fun {a b} h x hx y hy=>?_
  obtain ⟨d,_,rfl⟩:=List.mem_map.1 hx
  obtain ⟨e,_,rfl⟩:=List.mem_map.1 hy
  unfold Less
  show (a:Int) - 1 < (b:Int) - 1\/_
  omega
theorem mem_allI {G:GD} {x:It} (h:thereX G x=true):x ∈ allI G:=by
 obtain ⟨h1,h2,h3,h4⟩:=there_iff.1 h
 unfold allI
 rw [List.mem_flatMap]
 refine ⟨(x.1 + 1).toNat,List.mem_range.2 (by omega),List.mem_map.2 ⟨x.2.toNat,List.mem_range.2 ?_,?_⟩⟩
 ·rw [show (((x.1 + 1).toNat:Nat):Int) - 1=x.1 by omega]; omega
 ·exact Prod.ext (by show (((x.1 + 1).toNat:Nat):Int) - 1=x.1; omega) (by show ((x.2.toNat:Nat):Int)=x.2; omega)
open Classical in
noncomputable def inB (G:GD) (l:List It) (x:It):Bool:=if InC G l x then true else false
theorem inB_iff {G:GD} {l:List It} {x:It} : inB G l x=true ↔ InC G l x:=by unfold inB; split <;> simp_all
noncomputable def closeX (G:GD) (l:List It):List It:=(allI G).filter (inB G l)
theorem closeX_is (G:GD) (l:List It):IsClose G l (closeX G l):=⟨List.Pairwise.filter _ (allI_rise G),fun x=>by
 unfold closeX
 rw [List.mem_filter,inB_iff]
 exact ⟨fun h=>h.2,fun h=>⟨mem_allI h.there,h⟩⟩⟩
theorem closeX_eq {G:GD} {l c:List It} (h:IsClose G l c):c=closeX G l:=h.one (closeX_is G l)
theorem closeX_again (G:GD) (l:List It):closeX G (closeX G l)=closeX G l:=((closeX_is G l).again.one (closeX_is G (closeX G l))).symm
theorem closeX_nil (G:GD):closeX G []=[]:=by
 refine List.eq_nil_iff_forall_not_mem.2 fun x hx=>?_
 have h:=((closeX_is G []).2 x).1 hx
 clear hx
 induction h with
 | base x hx _=>cases hx
 | more x s p _ _ _ _ _ ih=>exact ih
def symsX (G:GD):List Int:=(List.range G.terms.length).map (fun t:Nat=>(t:Int)) ++ (List.range G.sorts.length).map (fun s:Nat=>-1 - (s:Int))
theorem symsX_len (G:GD):(symsX G).length=G.terms.length + G.sorts.length:=by unfold symsX; simp
def numX (k:List It) (ker:List (List It)):Int × List (List It):=
 if k=[] then (-1,ker) else match ker.idxOf? k with
  | some i=>((i:Int),ker)
  | none=>((ker.length:Int),ker ++ [k])
def rowX (G:GD) (c:List It):List Int->List Int × List (List It)->List Int × List (List It)
 | [],s=>s
 | y :: r,s=>rowX G c r (s.1 ++ [(numX (stepX G c y) s.2).1],(numX (stepX G c y) s.2).2)
theorem rowX_app (G:GD) (c:List It):∀ (r q:List Int) (s:List Int × List (List It)),rowX G c (r ++ q) s=rowX G c q (rowX G c r s)
 | [],q,s=>rfl
 | y :: r,q,s=>by rw [List.cons_append,rowX,rowX,rowX_app G c r q]
structure J14 where
 at_:Nat
 ker:List (List It)
 nx:List (List Int)
noncomputable def stepB (G:GD) (j:J14):J14:=
 {at_:=j.at_ + 1,ker:=(rowX G (closeX G (j.ker.getD j.at_ [])) (symsX G) ([],j.ker)).2,nx:=j.nx ++ [(rowX G (closeX G (j.ker.getD j.at_ [])) (symsX G) ([],j.ker)).1]}
noncomputable def iterB (G:GD):Nat->J14
 | 0=>{at_:=0,ker:=[[(-1,0)]],nx:=[]}
 | n + 1=>stepB G (iterB G n)
theorem iterB_at (G:GD):∀ n,(iterB G n).at_=n/\(iterB G n).nx.length=n
 | 0=>⟨rfl,rfl⟩
 | n + 1=>by
  obtain ⟨h1,h2⟩:=iterB_at G n
  exact ⟨by show (iterB G n).at_ + 1=n + 1; rw [h1],by show ((iterB G n).nx ++ [_]).length=n + 1; rw [List.length_append,h2]; rfl⟩
def Built (G:GD) (n:Nat):Prop:=(∀ m,m < n->m < (iterB G m).ker.length)/\∀ m,m < n->(iterB G (m + 1)).ker.length<=2000
def BuiltOk (G:GD) (n:Nat):Prop:=Built G n/\¬ n < (iterB G n).ker.length
def BuiltMany (G:GD) (n:Nat):Prop:=Built G n/\n < (iterB G n).ker.length/\¬ (iterB G (n + 1)).ker.length<=2000
theorem Built.one {G:GD} {n m:Nat} (h:BuiltOk G n) (g:BuiltOk G m):n=m:=by
 rcases Nat.lt_trichotomy n m with e | e | e
 ·exact absurd (g.1.1 n e) h.2
 ·exact e
 ·exact absurd (h.1.1 m e) g.2
theorem Built.not {G:GD} {n m:Nat} (h:BuiltOk G n) (g:BuiltMany G m):False:=by
 rcases Nat.lt_trichotomy n m with e | e | e
 ·exact h.2 (g.1.1 n e)
 ·subst e; exact h.2 g.2.1
 ·exact g.2.2 (h.1.2 m e)
theorem numX_len (k:List It) (ker:List (List It)):ker.length<=(numX k ker).2.length/\(numX k ker).2.length<=ker.length + 1:=by
 unfold numX
 split
 ·exact ⟨Nat.le_refl _,Nat.le_succ _⟩
 ·split
  ·exact ⟨Nat.le_refl _,Nat.le_succ _⟩
  ·rw [List.length_append]; exact ⟨Nat.le_add_right _ _,Nat.le_refl _⟩
theorem rowX_len (G:GD) (c:List It):∀ (r:List Int) (s:List Int × List (List It)),(rowX G c r s).1.length=s.1.length + r.length/\s.2.length<=(rowX G c r s).2.length/\(rowX G c r s).2.length<=s.2.length + r.length
 | [],s=>⟨rfl,Nat.le_refl _,Nat.le_refl _⟩
 | y :: r,s=>by
  obtain ⟨h1,h2,h3⟩:=rowX_len G c r (s.1 ++ [(numX (stepX G c y) s.2).1],(numX (stepX G c y) s.2).2)
  have h4:=numX_len (stepX G c y) s.2
  have h5:(s.1 ++ [(numX (stepX G c y) s.2).1]).length=s.1.length + 1:=by simp
  simp only [h5] at h1
  simp only at h2 h3
  rw [rowX,List.length_cons]
  exact ⟨by omega,by omega,by omega⟩
def Num (v:Int) (y:List It) (ker:List (List It)):Prop:=(v=-1/\y=[])\/∃ j:Nat,v=(j:Int)/\ker[j]?=some y
theorem Num.more {v:Int} {y:List It} {ker kes:List (List It)} (h:Num v y ker) (hp:ker <+: kes):Num v y kes:=by
 obtain ⟨t,rfl⟩:=hp
 rcases h with h | ⟨j,h1,h2⟩
 ·exact .inl h
 ·exact .inr ⟨j,h1,by rw [List.getElem?_append_left (List.getElem?_eq_some_iff.1 h2).1]; exact h2⟩
structure Kers (ker:List (List It)):Prop where
 some_:∀ k ∈ ker,k ≠ []
 nd:ker.Nodup
theorem num_ok {y:List It} {ker:List (List It)} (h:Kers ker):Kers (numX y ker).2/\ker <+: (numX y ker).2/\Num (numX y ker).1 y (numX y ker).2/\((numX y ker).2=ker\/(numX y ker).2=ker ++ [y]/\(numX y ker).1=(ker.length:Int)):=by
 unfold numX
 by_cases hy:y=[]
 ·rw [if_pos hy]
  exact ⟨h,List.prefix_refl _,.inl ⟨rfl,hy⟩,.inl rfl⟩
 ·rw [if_neg hy]
  cases e:ker.idxOf? y with
  | some i =>
   have hi:ker[i]?=some y:=by
    obtain ⟨hi,hp,_⟩:=List.findIdx?_eq_some_iff_getElem.1 e
    rw [geQ hi,beq_iff_eq.1 hp]
   exact ⟨h,List.prefix_refl _,.inr ⟨i,rfl,hi⟩,.inl rfl⟩
  | none =>
   have hn:y ∉ ker:=fun hm=>by
    have:=List.findIdx?_eq_none_iff.1 e y hm
    simp at this
   refine ⟨⟨fun k hk=>?_,?_⟩,List.prefix_append _ _,.inr ⟨ker.length,rfl,by rw [List.getElem?_append_right (Nat.le_refl _),Nat.sub_self]; rfl⟩,.inr ⟨rfl,rfl⟩⟩
   ·rcases List.mem_append.1 hk with hk | hk
    ·exact h.some_ k hk
    ·rw [List.mem_singleton.1 hk]; exact hy
   ·refine List.nodup_append.2 ⟨h.nd,List.nodup_cons.2 ⟨by simp,List.nodup_nil⟩,fun a ha b hb=>?_⟩
    rw [List.mem_singleton.1 hb]
    intro e2
    exact hn (e2 ▸ ha)
theorem getD_get {α:Type} {l:List α} {i:Nat} {x d:α} (h:l[i]?=some x):l.getD i d=x:=by rw [gdQ,h]; rfl
theorem row_ok (G:GD) (c:List It):∀ (r:List Int) (S:List Int) (ker:List (List It)),Kers ker ->
  Kers (rowX G c r (S,ker)).2/\ker <+: (rowX G c r (S,ker)).2/\S <+: (rowX G c r (S,ker)).1 /\
  (∀ k s,r[k]?=some s->∃ v,(rowX G c r (S,ker)).1[S.length + k]?=some v/\Num v (stepX G c s) (rowX G c r (S,ker)).2) /\
  ∀ j,ker.length<=j->j < (rowX G c r (S,ker)).2.length->∃ k,k < r.length/\(rowX G c r (S,ker)).1[S.length + k]?=some (j:Int)
 | [],S,ker,h=>⟨h,List.prefix_refl _,List.prefix_refl _,fun k s hk=>by simp at hk,fun j h1 h2=>absurd h2 (by show ¬ j < ker.length; omega)⟩
 | y :: r,S,ker,h=>by
  obtain ⟨h1,h2,h3,h4⟩:=num_ok (y:=stepX G c y) h
  obtain ⟨k1,k2,k3,k4,k5⟩:=row_ok G c r (S ++ [(numX (stepX G c y) ker).1]) (numX (stepX G c y) ker).2 h1
  rw [rowX]
  have hl:(S ++ [(numX (stepX G c y) ker).1]).length=S.length + 1:=by simp
  have h0:(rowX G c r (S ++ [(numX (stepX G c y) ker).1],(numX (stepX G c y) ker).2)).1[S.length]?=some (numX (stepX G c y) ker).1:=by
   obtain ⟨t,ht⟩:=k3
   rw [<-ht,List.getElem?_append_left (by omega),List.getElem?_append_right (Nat.le_refl _),Nat.sub_self]
   rfl
  refine ⟨k1,h2.trans k2,(List.prefix_append _ _).trans k3,fun k s hk=>?_,fun j j1 j2=>?_⟩
  ·cases k with
   | zero =>
    obtain rfl:y=s:=by simpa using hk
    exact ⟨_,h0,h3.more k2⟩
   | succ k =>
    obtain ⟨v,e1,e2⟩:=k4 k s (by simpa using hk)
    rw [hl] at e1
    exact ⟨v,by rw [show S.length + (k + 1)=S.length + 1 + k by omega]; exact e1,e2⟩
  ·by_cases hj:(numX (stepX G c y) ker).2.length<=j
   ·obtain ⟨k,e1,e2⟩:=k5 j hj j2
    rw [hl] at e2
    exact ⟨k + 1,by simpa using e1,by rw [show S.length + (k + 1)=S.length + 1 + k by omega]; exact e2⟩
   ·rcases h4 with e | ⟨e,e'⟩
    ·rw [e] at hj; omega
    ·rw [e,List.length_append] at hj
     have:j=ker.length:=by simp at hj; omega
     subst this
     exact ⟨0,by simp,by rw [Nat.add_zero,h0,e']⟩
structure InvB (G:GD) (j:J14):Prop where
 kers:Kers j.ker
 first:j.ker[0]?=some [(-1,0)]
 len:j.nx.length=j.at_
 num:∀ i:Nat,i < j.at_->∀ (k:Nat) (s:Int),(symsX G)[k]?=some s->∃ (R:List Int) (v:Int),j.nx[i]?=some R/\R[k]?=some v/\Num v (stepX G (closeX G (j.ker.getD i [])) s) j.ker
 rl:∀ (i:Nat) (R:List Int),j.nx[i]?=some R->R.length=(symsX G).length
 come:∀ q:Nat,0 < q->q < j.ker.length->∃ (i k:Nat) (R:List Int),i < j.at_/\i < q/\j.nx[i]?=some R/\R[k]?=some (q:Int)/\k < (symsX G).length
theorem InvB.start (G:GD):InvB G (iterB G 0):=⟨⟨fun k hk=>by rw [show k=[(-1,0)] by simpa [iterB] using hk]; simp,by simp [iterB]⟩,rfl,rfl,fun i hi=>absurd hi (Nat.not_lt_zero i),fun i R h=>by simp [iterB] at h,fun q h1 h2=>absurd h2 (by simp [iterB]; omega)⟩
theorem InvB.step {G:GD} {j:J14} (h:InvB G j) (hlt:j.at_ < j.ker.length):InvB G (stepB G j):=by
 obtain ⟨k1,k2,k3,k4,k5⟩:=row_ok G (closeX G (j.ker.getD j.at_ [])) (symsX G) [] j.ker h.kers
 have hrl:=(rowX_len G (closeX G (j.ker.getD j.at_ [])) (symsX G) ([],j.ker)).1
 have hpre:=k2
 obtain ⟨t,ht⟩:=k2
 have hker:(stepB G j).ker=(rowX G (closeX G (j.ker.getD j.at_ [])) (symsX G) ([],j.ker)).2:=rfl
 have hnx:(stepB G j).nx=j.nx ++ [(rowX G (closeX G (j.ker.getD j.at_ [])) (symsX G) ([],j.ker)).1]:=rfl
 have hat:(stepB G j).at_=j.at_ + 1:=rfl
 generalize rowX G (closeX G (j.ker.getD j.at_ [])) (symsX G) ([],j.ker)=RR at *
 rw [<-hker] at k1 k4 k5 ht hpre
 have hold:∀ i,i < j.ker.length->(stepB G j).ker.getD i []=j.ker.getD i []:=fun i hi=>by
  rw [<-ht,gdQ,List.getElem?_append_left hi,<-gdQ]
 have hold2:∀ (i:Nat) R,j.nx[i]?=some R->(stepB G j).nx[i]?=some R:=fun i R hR=>by rw [hnx,List.getElem?_append_left (List.getElem?_eq_some_iff.1 hR).1]; exact hR
 have hlast:(stepB G j).nx[j.at_]?=some RR.1:=by rw [hnx,<-h.len,List.getElem?_append_right (Nat.le_refl _),Nat.sub_self]; rfl
 refine ⟨k1,?_,by rw [hnx,hat,List.length_append,h.len]; rfl,fun i hi k s hs=>?_,fun i R hR=>?_,fun q q0 q1=>?_⟩
 ·rw [<-ht,List.getElem?_append_left (by omega)]; exact h.first
 ·by_cases hi2:i < j.at_
  ·obtain ⟨R,v,e1,e2,e3⟩:=h.num i hi2 k s hs
   exact ⟨R,v,hold2 i R e1,e2,by rw [hold i (by omega)]; exact e3.more hpre⟩
  ·obtain rfl:i=j.at_:=by rw [hat] at hi; omega
   obtain ⟨v,e1,e2⟩:=k4 k s hs
   rw [hold _ hlt]
   exact ⟨RR.1,v,hlast,by simpa using e1,e2⟩
 ·rw [hnx] at hR
  by_cases hi2:i < j.nx.length
  ·rw [List.getElem?_append_left hi2] at hR; exact h.rl i R hR
  ·rw [List.getElem?_append_right (by omega)] at hR
   have h0:i - j.nx.length=0:=by
    have:=(List.getElem?_eq_some_iff.1 hR).1
    simpa using this
   rw [h0] at hR
   obtain rfl:RR.1=R:=by simpa using hR
   rw [hrl]; simp
 ·by_cases hq:q < j.ker.length
  ·obtain ⟨i,k,R,e1,e2,e3,e4,e5⟩:=h.come q q0 hq
   exact ⟨i,k,R,by rw [hat]; omega,e2,hold2 i R e3,e4,e5⟩
  ·obtain ⟨k,e1,e2⟩:=k5 q (by omega) q1
   exact ⟨j.at_,k,RR.1,by rw [hat]; omega,by omega,hlast,by simpa using e2,e1⟩
theorem InvB.iter (G:GD):∀ n,(∀ m,m < n->m < (iterB G m).ker.length)->InvB G (iterB G n)
 | 0,_=>InvB.start G
 | n + 1,h=>by
  have i:=InvB.iter G n fun m hm=>h m (by omega)
  exact i.step (by rw [(iterB_at G n).1]; exact h n (by omega))
theorem BuiltOk.inv {G:GD} {n:Nat} (h:BuiltOk G n):InvB G (iterB G n)/\(iterB G n).at_=n/\(iterB G n).ker.length=n:=by
 have i:=InvB.iter G n h.1.1
 refine ⟨i,(iterB_at G n).1,?_⟩
 have h1:=h.2
 have h2:n<=(iterB G n).ker.length:=by
  cases n with
  | zero=>exact Nat.zero_le _
  | succ n =>
   have h3:=h.1.1 n (by omega)
   have h4:=(rowX_len G (closeX G ((iterB G n).ker.getD (iterB G n).at_ [])) (symsX G) ([],(iterB G n).ker)).2.1
   exact Nat.lt_of_lt_of_le h3 h4
 omega
theorem mem_step {G:GD} {c:List It} {s:Int} {y:It} : y ∈ stepX G c s ↔ ∃ x ∈ c,behX G x=some s/\y=(x.1,x.2 + 1):=by
 unfold stepX
 simp only [List.mem_map,List.mem_filter,beq_iff_eq]
 constructor
 ·rintro ⟨x,⟨h1,h2⟩,rfl⟩; exact ⟨x,h1,h2,rfl⟩
 ·rintro ⟨x,h1,h2,rfl⟩; exact ⟨x,⟨h1,h2⟩,rfl⟩
theorem step_dot {G:GD} {c:List It} {s:Int} {y:It} (h:y ∈ stepX G c s):1<=y.2/\behX G (y.1,y.2 - 1)=some s:=by
 obtain ⟨x,_,hb,rfl⟩:=mem_step.1 h
 have:=(there_iff.1 (beh_there hb)).2.2.1
 refine ⟨by show 1<=x.2 + 1; omega,?_⟩
 show behX G (x.1,x.2 + 1 - 1)=some s
 rw [show x.2 + 1 - 1=x.2 by omega]
 exact hb
theorem InvB.to_ {G:GD} {j:J14} (h:InvB G j) {i k:Nat} {s v:Int} {R:List Int} (hi:i < j.at_) (hs:(symsX G)[k]?=some s) (hR:j.nx[i]?=some R) (hv:R[k]?=some v) :
  (v=-1/\stepX G (closeX G (j.ker.getD i [])) s=[])\/∃ q:Nat,v=(q:Int)/\0 < q/\q < j.ker.length/\j.ker[q]?=some (stepX G (closeX G (j.ker.getD i [])) s):=by
 obtain ⟨R',v',e1,e2,e3⟩:=h.num i hi k s hs
 rw [hR] at e1
 injection e1 with e1
 subst e1
 rw [hv] at e2
 injection e2 with e2
 subst e2
 rcases e3 with e3 | ⟨q,rfl,hq⟩
 ·exact .inl e3
 ·refine .inr ⟨q,rfl,?_,(List.getElem?_eq_some_iff.1 hq).1,hq⟩
  rcases Nat.eq_zero_or_pos q with e | e
  ·subst e
   have hf:=h.first
   rw [hq] at hf
   injection hf with hf
   have:((-1:Int),(0:Int)) ∈ stepX G (closeX G (j.ker.getD i [])) s:=by rw [hf]; simp
   have:=(step_dot this).1
   omega
  ·exact e
structure More (G H:GD):Prop where
 terms:H.terms=G.terms
 sorts:H.sorts.length=G.sorts.length
 start:H.start=G.start
 prods:∃ p,H.prods=G.prods ++ [p]
theorem More.right {G H:GD} (h:More G H) {q:Int} (h1:-1<=q) (h2:q < (G.prods.length:Int)):rightX H q=rightX G q:=by
 obtain ⟨p,hp⟩:=h.prods
 unfold rightX
 rw [h.start,hp]
 split
 ·rfl
 ·rw [gdQ,List.getElem?_append_left (by omega),<-gdQ]
theorem More.there {G H:GD} (h:More G H) {x:It} (hx:thereX G x=true):thereX H x=true:=by
 obtain ⟨h1,h2,h3,h4⟩:=there_iff.1 hx
 obtain ⟨p,hp⟩:=h.prods
 exact there_iff.2 ⟨h1,by rw [hp,List.length_append]; omega,h3,by rw [h.right h1 h2]; exact h4⟩
theorem More.beh {G H:GD} (h:More G H) {x:It} {s:Int} (hb:behX G x=some s):behX H x=some s:=by
 have ht:=beh_there hb
 obtain ⟨h1,h2,_,_⟩:=there_iff.1 ht
 unfold behX at hb ⊢
 rw [if_pos ht] at hb
 rw [if_pos (h.there ht),h.right h1 h2]
 exact hb
theorem More.inn {G H:GD} (h:More G H) {l m:List It} (hl:∀ x ∈ l,x ∈ m) {x:It} (hx:InC G l x):InC H m x:=by
 induction hx with
 | base x hx ht=>exact .base x (hl x hx) (h.there ht)
 | more x s p _ hb hs hp he ih =>
  obtain ⟨q,hq⟩:=h.prods
  refine .more x s p ih (h.beh hb) hs (by rw [hq,List.length_append]; omega) ?_
  unfold sortX at he ⊢
  rw [hq,gdQ,List.getElem?_append_left hp,<-gdQ]
  exact he
theorem More.step {G H:GD} (h:More G H) {l m:List It} (hl:∀ x ∈ l,x ∈ m) (s:Int):∀ y ∈ stepX G (closeX G l) s,y ∈ stepX H (closeX H m) s:=fun y hy=>by
 obtain ⟨x,hx,hb,rfl⟩:=mem_step.1 hy
 exact mem_step.2 ⟨x,((closeX_is H m).2 x).2 (h.inn hl (((closeX_is G l).2 x).1 hx)),h.beh hb,rfl⟩
theorem More.kernel {G H:GD} (h:More G H) {n m:Nat} (hG:BuiltOk G n) (hH:BuiltOk H m):∀ (q:Nat) (k:List It),(iterB G n).ker[q]?=some k->∃ (r:Nat) (k':List It),(iterB H m).ker[r]?=some k'/\∀ x ∈ k,x ∈ k':=by
 obtain ⟨iG,aG,lG⟩:=hG.inv
 obtain ⟨iH,aH,lH⟩:=hH.inv
 intro q
 induction q using Nat.strongRecOn with
 | _ q ih =>
  intro k hk
  rcases Nat.eq_zero_or_pos q with e | e
  ·subst e
   rw [iG.first] at hk
   injection hk with hk
   subst hk
   exact ⟨0,_,iH.first,fun x hx=>hx⟩
  ·obtain ⟨i,c,R,hi,hiq,hR,hv,hc⟩:=iG.come q e (List.getElem?_eq_some_iff.1 hk).1
   obtain ⟨s,hs⟩:∃ s,(symsX G)[c]?=some s:=⟨_,geQ hc⟩
   rcases iG.to_ hi hs hR hv with ⟨e1,_⟩ | ⟨q',e1,_,_,e2⟩
   ·omega
   ·obtain rfl:q=q':=by omega
    rw [hk] at e2
    injection e2 with e2
    subst e2
    obtain ⟨ki,hki⟩:∃ ki,(iterB G n).ker[i]?=some ki:=⟨_,geQ (by omega)⟩
    obtain ⟨r,kr,hr,hsub⟩:=ih i hiq ki hki
    have hrl:=(List.getElem?_eq_some_iff.1 hr).1
    have hsy:(symsX H)[c]?=some s:=by
     unfold symsX at hs ⊢
     rw [h.terms,h.sorts]
     exact hs
    obtain ⟨R',v',e3,e4,e5⟩:=iH.num r (by omega) c s hsy
    have hsup:=h.step hsub s
    rw [getD_get hki]
    rw [getD_get hr] at e5
    rcases e5 with ⟨_,e5⟩ | ⟨r',_,e5⟩
    ·rw [e5] at hsup
     have hne:=iG.kers.some_ _ (List.mem_of_getElem? hk)
     rw [getD_get hki] at hne
     obtain ⟨x,hx⟩:=List.exists_mem_of_ne_nil _ hne
     exact absurd (hsup x hx) (by simp)
    ·exact ⟨r',_,e5,hsup⟩
def compX:List It->List It
 | []=>[]
 | [x]=>[x]
 | x :: y :: r=>if x=y then compX (y :: r) else x :: compX (y :: r)
theorem compX_mem:∀ (l:List It) (z:It),z ∈ compX l ↔ z ∈ l
 | [],z=>Iff.rfl
 | [x],z=>Iff.rfl
 | x :: y :: r,z=>by
  rw [compX]
  split
  ·rename_i h
   subst h
   rw [compX_mem (x :: r) z]
   simp
  ·rw [List.mem_cons,compX_mem (y :: r) z,<-List.mem_cons]
theorem compX_snoc:∀ (l:List It) (y x:It),compX (l ++ [y] ++ [x])=if x=y then compX (l ++ [y]) else compX (l ++ [y]) ++ [x]
 | [],y,x=>by
  show compX [y,x]=_
  by_cases h:x=y
  ·subst h; simp [compX]
  ·have h':¬ y=x:=fun e=>h e.symm
   simp [compX,h,h']
 | [a],y,x=>by
  have ih:=compX_snoc [] y x
  rw [List.nil_append] at ih
  show compX (a :: y :: [x])=if x=y then compX (a :: y :: []) else compX (a :: y :: []) ++ [x]
  have e1:∀ (r:List It),compX (a :: y :: r)=if a=y then compX (y :: r) else a :: compX (y :: r):=fun r=>rfl
  have ih':compX (y :: [x])=if x=y then compX [y] else compX [y] ++ [x]:=ih
  rw [e1,e1,ih']
  by_cases h1:a=y <;> by_cases h2:x=y <;> simp [h1,h2]
 | a :: b :: l,y,x=>by
  have ih:=compX_snoc (b :: l) y x
  show compX (a :: b :: (l ++ [y] ++ [x]))=if x=y then compX (a :: b :: (l ++ [y])) else compX (a :: b :: (l ++ [y])) ++ [x]
  have ih':compX (b :: (l ++ [y] ++ [x]))=if x=y then compX (b :: (l ++ [y])) else compX (b :: (l ++ [y])) ++ [x]:=ih
  have e1:∀ (r:List It),compX (a :: b :: r)=if a=b then compX (b :: r) else a :: compX (b :: r):=fun r=>rfl
  rw [e1,e1,ih']
  by_cases h1:a=b <;> by_cases h2:x=y <;> simp [h1,h2]
def Ord (l:List It):Prop:=l.Pairwise fun a b=>¬ Less b a
theorem compX_rise:∀ {l:List It},Ord l->Rise (compX l)
 | [],_=>List.Pairwise.nil
 | [x],_=>List.pairwise_singleton _ _
 | x :: y :: r,h=>by
  obtain ⟨h1,h2⟩:=List.pairwise_cons.1 h
  rw [compX]
  split
  ·exact compX_rise h2
  ·rename_i hne
   refine List.pairwise_cons.2 ⟨fun z hz=>?_,compX_rise h2⟩
   have hz':=(compX_mem (y :: r) z).1 hz
   obtain ⟨h3,_⟩:=List.pairwise_cons.1 h2
   have hxy:Less x y:=by
    rcases Classical.em (Less x y) with e | e
    ·exact e
    ·exact absurd (Less.total e (h1 y (by simp))) hne
   rcases List.mem_cons.1 hz' with e | e
   ·rw [e]; exact hxy
   ·rcases Classical.em (Less y z) with e' | e'
    ·exact hxy.trans e'
    ·rw [<-Less.total e' (h3 z e)]; exact hxy
theorem compX_take {l:List It} {j:Nat} {x y:It} (hx:l[j + 1]?=some x) (hy:l[j]?=some y):compX (l.take (j + 2))=if x=y then compX (l.take (j + 1)) else compX (l.take (j + 1)) ++ [x]:=by
 rw [List.take_add_one,hx,List.take_add_one,hy]
 exact compX_snoc _ _ _
theorem compX_len:∀ (l:List It),(compX l).length<=l.length
 | []=>Nat.le_refl _
 | [x]=>Nat.le_refl _
 | x :: y :: r=>by
  rw [compX]
  have:=compX_len (y :: r)
  split
  ·exact Nat.le_trans this (Nat.le_succ _)
  ·simpa using this
theorem compX_id:∀ {l:List It},(∀ j x y,l[j]?=some x->l[j + 1]?=some y->x ≠ y)->compX l=l
 | [],_=>rfl
 | [x],_=>rfl
 | x :: y :: r,h=>by
  rw [compX,if_neg (h 0 x y rfl rfl),compX_id fun j a b ha hb=>h (j + 1) a b ha hb]
end Go.Proofs.X14
