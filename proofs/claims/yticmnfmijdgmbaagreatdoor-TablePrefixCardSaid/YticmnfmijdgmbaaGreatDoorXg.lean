/- spread: the mathematics of a round. -/
import Derived.Test.YticmnfmijdgmbaaGreatDoorXf
set_option linter.unusedVariables false
set_option linter.unusedSimpArgs false
namespace Go.Proofs.YticmnfmijdgmbaaGreatDoor.S13
open X14 (It)
def cnt (v:Nat):Nat:=(List.range 64).countP fun i=>v.testBit i
theorem cnt_le (v:Nat):cnt v<=64:=by
 unfold cnt
 exact Nat.le_trans List.countP_le_length (by simp)
theorem countP_lt {α:Type} {p q:α->Bool} : ∀ {l:List α},(∀ x ∈ l,p x=true->q x=true)->(∃ x ∈ l,q x=true/\p x=false)->l.countP p < l.countP q
 | [],_,h=>by obtain ⟨x,hx,_⟩:=h; cases hx
 | a :: l,h1,h2=>by
  have hle:l.countP p<=l.countP q:=List.countP_mono_left fun x hx=>h1 x (List.mem_cons_of_mem _ hx)
  rw [List.countP_cons,List.countP_cons]
  obtain ⟨x,hx,h3,h4⟩:=h2
  rcases List.mem_cons.1 hx with e | e
  ·subst e
   rw [h3,h4]
   simp
   omega
  ·have ih:=countP_lt (l:=l) (fun x hx=>h1 x (List.mem_cons_of_mem _ hx)) ⟨x,e,h3,h4⟩
   have ha:=h1 a List.mem_cons_self
   cases hp:p a
   ·simp
    omega
   ·rw [ha hp]
    simp
    omega
theorem cnt_lt {a v:Nat} (hv:v < top) (h:¬ Sub v a):cnt a < cnt (a ||| v):=by
 have:∃ i,v.testBit i=true/\a.testBit i=false:=by
  refine Classical.byContradiction fun hn=>h (sub_iff.2 fun i hi=>?_)
  cases ha:a.testBit i
  ·exact absurd ⟨i,hi,ha⟩ hn
  ·rfl
 obtain ⟨i,h1,h2⟩:=this
 have hi:i < 64:=by
  rcases Nat.lt_or_ge i 64 with h3 | h3
  ·exact h3
  ·rw [testBit_hi hv h3] at h1; cases h1
 refine countP_lt (fun x _ hx=>by rw [Nat.testBit_or,hx]; rfl) ⟨i,List.mem_range.2 hi,by rw [Nat.testBit_or,h1]; simp,h2⟩
namespace X15
def miss (P:List Pl) (A:Pl->Nat):Nat:=(P.map fun q=>64 - cnt (A q)).sum
theorem miss_zero (P:List Pl):miss P (fun _=>0)<=64 * P.length:=by
 unfold miss
 induction P with
 | nil=>exact Nat.le_refl _
 | cons a l ih =>
  rw [List.map_cons,List.sum_cons,List.length_cons]
  omega
theorem miss_upd {P:List Pl} {A:Pl->Nat} {t:Pl} {v:Nat} (ht:t ∈ P) (hv:v < top) (h:¬ Sub v (A t)):miss P (updA A t v) < miss P A:=by
 have hle:∀ q,cnt (A q)<=cnt (updA A t v q):=fun q=>by
  unfold updA
  split
  ·rename_i e
   subst e
   exact Nat.le_of_lt (cnt_lt hv h)
  ·exact Nat.le_refl _
 have hmono:∀ l:List Pl,miss l (updA A t v)<=miss l A:=fun l=>by
  unfold miss
  induction l with
  | nil=>exact Nat.le_refl _
  | cons a l ih =>
   rw [List.map_cons,List.map_cons,List.sum_cons,List.sum_cons]
   have:=hle a
   omega
 have key:∀ l:List Pl,t ∈ l->miss l (updA A t v) < miss l A:=fun l=>by
  induction l with
  | nil=>intro h; cases h
  | cons a l ih =>
   intro hm
   have h1:=hmono l
   have h2:=hle a
   unfold miss at *
   rw [List.map_cons,List.map_cons,List.sum_cons,List.sum_cons]
   rcases List.mem_cons.1 hm with e | e
   ·subst e
    have h3:cnt (A t) < cnt (updA A t v t):=by rw [updA_self]; exact cnt_lt hv h
    have h4:=cnt_le (updA A t v t)
    omega
   ·have:=ih e
    omega
 exact key P ht
end X15
end Go.Proofs.YticmnfmijdgmbaaGreatDoor.S13
namespace Go.Proofs.YticmnfmijdgmbaaGreatDoor
open Go Go.RowKit Go.Lib
open X14 (It iterB BuiltOk)
open S13 (u64 comX Com bitN top E0 F0 Sub)
open S13.X15 (Pl WQ WS askX places cxB updA miss CxOk)
theorem upd_eq {LA LA':List (Pl × Nat)} {p:Pl} {v:Nat} (h:∀ q,getA LA' q=if q=p then getA LA p ||| v else getA LA q):getA LA'=updA (getA LA) p v:=funext fun q=>by
 rw [h q]
 unfold S13.X15.updA
 rfl
theorem ws_step {ask:S13.X15.Ask} {P:List Pl} {b0:Pl} {v0:Nat} {LA LA':List (Pl × Nat)} {Q Q':List Pl} {x:Pl} {S k:Nat} (hm:S13.X15.MonoA ask) (h:WS ask P b0 v0 (getA LA) Q x S k) {t:Pl} {v:Nat} (he:(ask x S)[k]?=some (t,v)) (ht:t ∈ P) (hv:v < top)
  (hc:(Sub v (getA LA t)/\LA'=LA/\Q'=Q)\/(¬ Sub v (getA LA t)/\Q'=Q ++ [t]/\∀ q,getA LA' q=if q=t then getA LA t ||| v else getA LA q)) :
  WS ask P b0 v0 (getA LA') Q' x S (k + 1)/\Q'.length + miss P (getA LA')<=Q.length + miss P (getA LA)/\Q'.length + 2 * miss P (getA LA')<=Q.length + 2 * miss P (getA LA)/\∀ q,Sub (getA LA q) (getA LA' q):=by
 rcases hc with ⟨h1,rfl,rfl⟩ | ⟨h1,rfl,h3⟩
 ·exact ⟨h.skip he h1,Nat.le_refl _,Nat.le_refl _,fun q=>S13.sub_refl _⟩
 ·have e:=upd_eq h3
  have hlt:=S13.X15.miss_upd (P:=P) ht hv h1
  rw [e]
  refine ⟨h.add hm he ht hv,?_,?_,fun q=>S13.X15.updA_sub _ _ _ _⟩ <;> rw [List.length_append,List.length_singleton] <;> omega
theorem symOk {G:GD} (hV:validB G=true):S13.X15.SymOk G:=fun x s h=>by
 have ht:=X14.there_iff.1 (X14.beh_there h)
 have hst:=valid_start hV
 unfold X14.behX at h
 rw [if_pos (X14.beh_there (by unfold X14.behX; exact h))] at h
 have hm:=List.mem_of_getElem? h
 have hs:(0<=s/\s < (G.terms.length:Int))\/(s < 0/\-1 - s < (G.sorts.length:Int)):=by
  unfold X14.rightX at hm
  split at hm
  ·obtain rfl:s=-1 - G.start:=by simpa using hm
   exact .inr ⟨by omega,by omega⟩
  ·have hp:x.1.toNat < G.prods.length:=by omega
   rw [gdQ,geQ hp] at hm
   exact (S13.valid_rows hV _ (List.getElem_mem hp)).2.2 s hm
 rcases hs with ⟨h1,h2⟩ | ⟨h1,h2⟩
 ·refine ⟨s.toNat,by unfold placeX; rw [if_pos h1,if_pos h2],?_⟩
  have:=X14.syms_term (G:=G) (t:=s.toNat) (by omega)
  rw [this]
  congr 1
  omega
 ·refine ⟨G.terms.length + (-1 - s).toNat,by unfold placeX; rw [if_neg (by omega),if_pos h2],?_⟩
  have:=X14.syms_sort (G:=G) (s:=(-1 - s).toNat) (by omega)
  rw [this]
  congr 1
  omega
theorem there_ok {G:GD} (hV:validB G=true) {x:It} (h:X14.thereX G x=true):ItOk x/\-1<=x.1/\x.1<=120/\0<=x.2/\x.2<=12:=by
 obtain ⟨h1,h2,h3,h4⟩:=X14.there_iff.1 h
 have h5:=X14.right_le hV h1 h2
 have h6:=(valid_parts hV).2.2.1
 refine ⟨⟨by omega,by omega,by omega,by omega⟩,by omega,by omega,h3,by omega⟩
theorem place_there {G:GD} {n i:Nat} {x:It} (h:(i,x) ∈ places (cxB G n (E0 G) (F0 G)) n):i < n/\X14.thereX G x=true:=by
 obtain ⟨h1,h2⟩:=S13.X15.mem_places.1 h
 exact ⟨h1,(S13.X15.mem_C.1 h2).there⟩
theorem place_ok {G:GD} (hV:validB G=true) {n:Nat} (hn:n<=2000) {p:Pl} (h:p ∈ places (cxB G n (E0 G) (F0 G)) n):PlOk p:=by
 obtain ⟨i,x⟩:=p
 obtain ⟨h1,h2⟩:=place_there h
 obtain ⟨⟨a,b,c,d⟩,_⟩:=there_ok hV h2
 exact ⟨by show (i:Int)<=_; omega,a,b,c,d⟩
end Go.Proofs.YticmnfmijdgmbaaGreatDoor
