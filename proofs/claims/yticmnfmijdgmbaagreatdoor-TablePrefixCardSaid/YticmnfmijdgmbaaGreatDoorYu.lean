/- The table of falses, as it lies in memory while Span lays it. -/
import Derived.Test.YticmnfmijdgmbaaGreatDoorYx
import Derived.Test.YticmnfmijdgmbaaGreatDoorZk
import Derived.Test.YticmnfmijdgmbaaGreatDoorGc
import Derived.Test.YticmnfmijdgmbaaGreatDoorZt
set_option linter.unusedVariables false
set_option linter.unusedSimpArgs false
namespace Go.Proofs.YticmnfmijdgmbaaGreatDoor
open Go Go.RowKit Go.Lib
theorem nodup_inj:∀ {L:List Nat},L.Nodup->∀ {i j:Nat} (hi:i < L.length) (hj:j < L.length),L[i]=L[j]->i=j
 | [],_,i,_,hi,_,_=>by simp at hi
 | x :: L,h,0,0,_,_,_=>rfl
 | x :: L,h,0,j + 1,hi,hj,e=>by
  have h1:=(List.nodup_cons.1 h).1
  have h2:j < L.length:=by simpa using hj
  have e:x=L[j]:=e
  exact absurd (e ▸ List.getElem_mem h2) h1
 | x :: L,h,i + 1,0,hi,hj,e=>by
  have h1:=(List.nodup_cons.1 h).1
  have h2:i < L.length:=by simpa using hi
  have e:L[i]=x:=e
  exact absurd (e ▸ List.getElem_mem h2) h1
 | x :: L,h,i + 1,j + 1,hi,hj,e=>by
  have e:L[i]'(by simpa using hi)=L[j]'(by simpa using hj):=e
  exact congrArg (· + 1) (nodup_inj (List.nodup_cons.1 h).2 (by simpa using hi) (by simpa using hj) e)
def leavesI (M:Nat) (P:Nat->Bool) (L:List Nat):Item where
 bl:=L
 ok w:=∀ b ∈ L,w.heap[b]?=some (bO M P)
 kept h hw b hb:=(h b hb).trans (hw b hb)
def sl (M b:Nat):Value:=.slice (some ⟨b,0,none⟩) M M
def rowL (L:List Nat) (M k j:Nat):List Value:=(List.range j).map fun t=>sl M (L.getD (k * M + t) 0)
def fL (L:List Nat) (M k:Nat):Nat × List Value:=(M,rowL L M k M)
theorem getD_left {L:List Nat} {i b:Nat} (h:i < L.length):(L ++ [b]).getD i 0=L.getD i 0:=by
 rw [gdQ,gdQ,List.getElem?_append_left h]
theorem rowL_more {L:List Nat} {M k j:Nat} (h:k * M + j<=L.length) (b:Nat):rowL (L ++ [b]) M k j=rowL L M k j:=by
 unfold rowL
 refine List.map_congr_left fun t ht=>?_
 rw [List.mem_range] at ht
 rw [getD_left (by omega)]
theorem rowL_push {L:List Nat} {M k j:Nat} (h:L.length=k * M + j) (b:Nat):rowL (L ++ [b]) M k (j + 1)=rowL L M k j ++ [sl M b]:=by
 have e:=rowL_more (L:=L) (M:=M) (k:=k) (j:=j) (by omega) b
 unfold rowL at e ⊢
 rw [List.range_succ,List.map_append,e]
 congr 1
 show [sl M ((L ++ [b]).getD (k * M + j) 0)]=_
 rw [gdQ,List.getElem?_append_right (by omega),h,Nat.sub_self]
 rfl
theorem rowsL_more {L:List Nat} {M:Nat} {R:List (Value × Nat × List Value)} (h:RowsOk (fL L M) R) (hl:R.length * M<=L.length) (b:Nat):RowsOk (fL (L ++ [b]) M) R:=fun k r hr=>by
 rw [h k r hr]
 have hk:=(List.getElem?_eq_some_iff.1 hr).1
 have:(k + 1) * M<=R.length * M:=Nat.mul_le_mul_right _ hk
 rw [Nat.add_mul,Nat.one_mul] at this
 unfold fL
 rw [rowL_more (by omega)]
theorem foot_leaf {B:Nat} {W w w':World} {l m:List Item} (h:Foot B W w (l ++ m)) {k M:Nat} {P:Nat->Bool} {L:List Nat} (hk:m[k]?=some (leavesI M P L)) (hb:Below w.heap.size w w') (hn:w'.heap[w.heap.size]?=some (bO M P)) :
  Foot B W w' (l ++ m.set k (leavesI M P (L ++ [w.heap.size])))/\w.heap.size ∉ L:=by
 have hkk:(l ++ m)[l.length + k]?=some (leavesI M P L):=by rw [List.getElem?_append_right (Nat.le_add_right _ _),Nat.add_sub_cancel_left]; exact hk
 have hlt:=(ltQ hn)
 have:=h.upd (l.length + k) hkk (leavesI M P (L ++ [w.heap.size])) ((Touch.below hb).mono (by simp)) (fun q hq=>by
  rcases List.mem_append.1 hq with e | e
  ·exact ((h.below hb).ok _ _ hkk) q e
  ·obtain rfl:q=w.heap.size:=by simpa using e
   exact hn) (fun b hbm=>by
  rcases List.mem_append.1 (show b ∈ L ++ [w.heap.size] from hbm) with e | e
  ·have h5:=(h.lt _ _ hkk b e).2
   exact ⟨.inl e,by have:=hb.size; omega⟩
  ·obtain rfl:b=w.heap.size:=by simpa using e
   exact ⟨.inr (Nat.le_refl _),hlt⟩)
 rw [List.set_append_right _ _ (Nat.le_add_right _ _),Nat.add_sub_cancel_left] at this
 exact ⟨this,fun he=>by have:=(h.lt _ _ hkk _ he).2; omega⟩
theorem nodup_push {L:List Nat} {b:Nat} (h:L.Nodup) (hb:b ∉ L):(L ++ [b]).Nodup:=by
 rw [List.nodup_append]
 refine ⟨h,by simp,fun x hx y hy e=>?_⟩
 obtain rfl:y=b:=by simpa using hy
 subst e
 exact hb hx
theorem leaf_laid {B S M:Nat} {W w:World} {o:Item} {v:Value} {L:List Nat} {R:List (Value × Nat × List Value)} (h:Foot B W w [o,leavesI M (fun _=>false) L,queI B 1 v S (R.map (·.1)),gI B 1 R]) (hR:R.length=S) (hL:L.length=S * M) (hN:L.Nodup) (hO:RowsOk (fL L M) R) :
  LeafSt w v S M (fun A m=>L.getD (A * M + m) 0) (fun _ _ _=>false)/\∀ A m,A < S->m < M->L.getD (A * M + m) 0 ∈ L:=by
 have lt:∀ A m,A < S->m < M->A * M + m < L.length:=fun A m hA hm=>by
  have:(A + 1) * M<=S * M:=Nat.mul_le_mul_right _ hA
  rw [Nat.add_mul,Nat.one_mul] at this
  omega
 have mem:∀ A m,A < S->m < M->L.getD (A * M + m) 0 ∈ L:=fun A m hA hm=>by
  rw [gdQ,geQ (lt A m hA hm)]
  exact List.getElem_mem _
 refine ⟨⟨rows_own (h.ok 2 _ rfl) (h.ok 3 _ rfl) hR hO fun A u hA hu=>?_,fun A m hA hm=>h.ok 1 _ rfl _ (mem A m hA hm),fun A m A' m' hA hm hA' hm' e=>?_⟩,mem⟩
 ·have hl:(rowL L M A M).length=M:=by unfold rowL; simp
  have hu:ownsT w B 1 u M (rowL L M A M):=hu
  rw [show ownsT w B 1 u M (rowL L M A M)=ownsT w B 1 u (rowL L M A M).length (rowL L M A M) by rw [hl]] at hu
  have:=RowsAt.of_own (p:=fun m u'=>u'=sl M (L.getD (A * M + m) 0)) hu fun i u' hi=>by
   unfold rowL at hi
   rw [List.getElem?_map] at hi
   cases hx:(List.range M)[i]? with
   | none=>rw [hx] at hi; cases hi
   | some k =>
    rw [hx] at hi
    obtain ⟨h1,h2⟩:=List.getElem?_eq_some_iff.1 hx
    rw [List.getElem_range] at h2
    subst h2
    exact (Option.some.inj hi).symm
  rw [hl] at this
  exact this
 ·have h1:=lt A m hA hm
  have h2:=lt A' m' hA' hm'
  rw [gdQ,geQ h1,gdQ,geQ h2] at e
  have h3:A * M + m=A' * M + m':=nodup_inj hN _ _ e
  have e3:(A * M + m) / M=A:=by rw [Nat.add_comm,Nat.add_mul_div_right _ _ (by omega),Nat.div_eq_of_lt hm,Nat.zero_add]
  have e4:(A' * M + m') / M=A':=by rw [Nat.add_comm,Nat.add_mul_div_right _ _ (by omega),Nat.div_eq_of_lt hm',Nat.zero_add]
  obtain rfl:A=A':=by rw [<-e3,<-e4,h3]
  exact ⟨rfl,by omega⟩
theorem foot_leafjoin {B:Nat} {W w:World} {l:List Item} {k M b:Nat} {P:Nat->Bool} {L:List Nat} (h:Foot B W w (l ++ [blkI b (bO M P)])) (hk:l[k]?=some (leavesI M P L)):Foot B W w (l.set k (leavesI M P (L ++ [b])))/\b ∉ L:=by
 have hkl:=(List.getElem?_eq_some_iff.1 hk).1
 have h1:(l ++ [blkI b (bO M P)])[k]?=some (leavesI M P L):=by rw [List.getElem?_append_left hkl]; exact hk
 have h2:(l ++ [blkI b (bO M P)])[l.length]?=some (blkI b (bO M P)):=by rw [List.getElem?_append_right (Nat.le_refl _),Nat.sub_self]; rfl
 have h3:=h.join k l.length h1 h2 (by omega) (leavesI M P (L ++ [b])) noneI (fun q hq=>by
  rcases List.mem_append.1 hq with e | e
  ·exact (h.ok _ _ h1) q e
  ·obtain rfl:q=b:=by simpa using e
   exact h.ok _ _ h2) trivial rfl (fun q hq=>by
  rcases List.mem_append.1 (show q ∈ L ++ [b] from hq) with e | e
  ·exact .inl e
  ·obtain rfl:q=b:=by simpa using e
   exact .inr (show q ∈ [q] from List.mem_singleton.2 rfl))
 rw [List.set_append_right _ _ (Nat.le_refl _),Nat.sub_self,List.set_append_left _ _ hkl] at h3
 refine ⟨foot_drops h3,fun he=>?_⟩
 have:=h.apart k l.length _ _ b h1 h2 he (show b ∈ [b] from List.mem_singleton.2 rfl)
 omega
end Go.Proofs.YticmnfmijdgmbaaGreatDoor

namespace Go.Proofs.YticmnfmijdgmbaaGreatDoor
namespace LR
def oneE (l:List Int) (B:Nat->Nat->Bool) (s:Int) (j:Nat):Bool:=
 if 0<=s then (j == l.length) || (decide (j + 1=l.length) && decide (l[j]?=some s)) else B (-1 - s).toNat j
def begAt (l:List Int) (C:Nat->Nat->Nat->Bool) (B:Nat->Nat->Bool) (rs:List Int) (i k e:Nat):Bool:=
 (List.range e).any fun j=>decide (i<=j) && endsE l C (rs.take k) (fun m=>m == i) j && oneE l B (rs.getD k 0) j
def begK (l:List Int) (C:Nat->Nat->Nat->Bool) (B:Nat->Nat->Bool) (rs:List Int) (i K:Nat):Bool:=
 (List.range K).any fun k=>begAt l C B rs i k (l.length + 1)
def begE (l:List Int) (C:Nat->Nat->Nat->Bool) (B:Nat->Nat->Bool) (rs:List Int) (i:Nat):Bool:=
 begK l C B rs i rs.length || endsE l C rs (fun m=>m == i) l.length
def BegR (l:List Int) (C:Nat->Nat->Nat->Bool) (B:Nat->Nat->Bool) (rs:List Int) (R:Nat->Bool):Prop:=
 endsE l C rs R l.length=true\/∃ k j s,rs[k]?=some s/\j<=l.length/\endsE l C (rs.take k) R j=true/\oneE l B s j=true
theorem ends_ge {l:List Int} {C:Nat->Nat->Nat->Bool} : ∀ (rs:List Int) {R:Nat->Bool} {i:Nat},(∀ m,R m=true->i<=m)->∀ k,endsE l C rs R k=true->i<=k
 | [],R,i,hR,k,h=>hR k h
 | s :: rs,R,i,hR,k,h=>ends_ge rs (R:=stepE l C s R) (fun j hj=>by
  by_cases hs:0<=s
  ·obtain ⟨m,h1,h2,_⟩:=(step_term hs).1 hj
   have:=hR m h2
   omega
  ·obtain ⟨m,h1,h2,_⟩:=(step_sort (by omega)).1 hj
   have:=hR m h2
   omega) k h
theorem begE_iff {l:List Int} {C:Nat->Nat->Nat->Bool} {B:Nat->Nat->Bool} {rs:List Int} {i:Nat} : begE l C B rs i=true ↔ BegR l C B rs (fun m=>m == i):=by
 unfold begE BegR begK begAt
 rw [Bool.or_eq_true,List.any_eq_true]
 constructor
 ·rintro (⟨k,h1,h2⟩ | h)
  ·rw [List.any_eq_true] at h2
   obtain ⟨j,h3,h4⟩:=h2
   rw [List.mem_range] at h1 h3
   rw [Bool.and_eq_true,Bool.and_eq_true] at h4
   have e:rs[k]?=some (rs.getD k 0):=by rw [gdQ,geQ h1]; rfl
   exact .inr ⟨k,j,_,e,by omega,h4.1.2,h4.2⟩
  ·exact .inl h
 ·rintro (h | ⟨k,j,s,h1,h2,h3,h4⟩)
  ·exact .inr h
  ·refine .inl ⟨k,List.mem_range.2 (List.getElem?_eq_some_iff.1 h1).1,List.any_eq_true.2 ⟨j,List.mem_range.2 (by omega),?_⟩⟩
   have h5:i<=j:=ends_ge _ (fun m hm=>by rw [beq_iff_eq] at hm; omega) _ h3
   rw [h3,decide_eq_true h5,gdQ,h1,Option.getD_some,h4]
   rfl
theorem BegR.mono {l:List Int} {C:Nat->Nat->Nat->Bool} {B:Nat->Nat->Bool} {rs:List Int} {R R':Nat->Bool} (hR:∀ k,R k=true->R' k=true) (h:BegR l C B rs R):BegR l C B rs R':=by
 rcases h with h | ⟨k,j,s,h1,h2,h3,h4⟩
 ·exact .inl (ends_mono (fun _ _ _ h=>h) rs hR _ h)
 ·exact .inr ⟨k,j,s,h1,h2,ends_mono (fun _ _ _ h=>h) _ hR _ h3,h4⟩
theorem BegR.cons {l:List Int} {C:Nat->Nat->Nat->Bool} {B:Nat->Nat->Bool} {rs:List Int} {R:Nat->Bool} {s:Int} (h:BegR l C B rs (stepE l C s R)):BegR l C B (s :: rs) R:=by
 rcases h with h | ⟨k,j,u,h1,h2,h3,h4⟩
 ·exact .inl h
 ·exact .inr ⟨k + 1,j,u,h1,h2,h3,h4⟩
section
variable {M:Mach} {l:List Int} {C:Nat->Nat->Nat->Bool} {B:Nat->Nat->Bool}
def TellsB (M:Mach) (l:List Int) (B:Nat->Nat->Bool):Prop:=∀ s i,i<=l.length->B s i=true->∃ y,Der M [-1 - (s:Int)] (seg l i l.length ++ y)
def ClosedB (M:Mach) (l:List Int) (C:Nat->Nat->Nat->Bool) (B:Nat->Nat->Bool):Prop:=∀ q,M.isP q->∀ i,i<=l.length->begE l C B (M.rt q) i=true->B (-1 - M.srt q).toNat i=true
theorem row_live {rs:List Int} (h:∀ s ∈ rs,∃ y,Der M [s] y):∃ y,Der M rs y:=by
 induction rs with
 | nil=>exact ⟨[],.nil⟩
 | cons s rs ih =>
  obtain ⟨y,hy⟩:=h s List.mem_cons_self
  obtain ⟨z,hz⟩:=ih fun s hs=>h s (List.mem_cons_of_mem _ hs)
  exact ⟨y ++ z,Der.app (l:=[s]) hy hz⟩
theorem beg_sound (hC:TellsE M l C) (hB:TellsB M l B) {rs:List Int} (hL:∀ s ∈ rs,∃ y,Der M [s] y) {i:Nat} (hi:i<=l.length) (h:begE l C B rs i=true):∃ y,Der M rs (seg l i l.length ++ y):=by
 rcases begE_iff.1 h with h | ⟨k,j,s,h1,h2,h3,h4⟩
 ·obtain ⟨m,e1,e2,e3⟩:=ends_sound hC rs _ (Nat.le_refl _) h
  rw [beq_iff_eq] at e2
  subst e2
  exact ⟨[],by rw [List.append_nil]; exact e3⟩
 ·obtain ⟨m,e1,e2,e3⟩:=ends_sound hC _ _ h2 h3
  rw [beq_iff_eq] at e2
  subst e2
  obtain ⟨hk,hs⟩:=List.getElem?_eq_some_iff.1 h1
  obtain ⟨y2,hy2⟩:=row_live (M:=M) (rs:=rs.drop (k + 1)) fun s hs=>hL s (List.mem_of_mem_drop hs)
  have er:rs=rs.take k ++ ([s] ++ rs.drop (k + 1)):=by
   rw [<-hs]
   show rs=rs.take k ++ rs[k] :: rs.drop (k + 1)
   rw [<-List.drop_eq_getElem_cons hk,List.take_append_drop]
  have key:∀ x,Der M [s] (seg l j l.length ++ x)->∃ y,Der M rs (seg l m l.length ++ y):=fun x hx=>by
   refine ⟨x ++ y2,?_⟩
   rw [er,<-seg_app e1 h2,List.append_assoc]
   refine Der.app e3 ?_
   rw [<-List.append_assoc]
   exact Der.app hx hy2
  unfold oneE at h4
  split at h4
  ·rename_i h0
   rw [Bool.or_eq_true,beq_iff_eq,Bool.and_eq_true,decide_eq_true_iff,decide_eq_true_iff] at h4
   rcases h4 with h4 | ⟨h4,h5⟩
   ·subst h4
    refine key [s] ?_
    rw [seg_self]
    exact .term s [] [] h0 .nil
   ·refine key [] ?_
    rw [<-h4,seg_one h5]
    exact .term s [] [] h0 .nil
  ·obtain ⟨y,hy⟩:=hB _ j h2 h4
   rw [show (-1 - ((-1 - s).toNat:Int))=s by omega] at hy
   exact key y hy
theorem tellsB_more (hC:TellsE M l C) (hB:TellsB M l B) {q:Int} (hq:M.isP q) (hsrt:M.srt q < 0) (hL:∀ s ∈ M.rt q,∃ y,Der M [s] y) {i:Nat} (hi:i<=l.length) (h:begE l C B (M.rt q) i=true) :
  TellsB M l (fun s j=>if s=(-1 - M.srt q).toNat/\j=i then true else B s j):=fun s j hj h3=>by
 replace h3:(if s=(-1 - M.srt q).toNat/\j=i then true else B s j)=true:=h3
 split at h3
 ·rename_i e
  obtain ⟨rfl,rfl⟩:=e
  obtain ⟨y,hy⟩:=beg_sound hC hB hL hi h
  refine ⟨y,?_⟩
  rw [show (-1 - ((-1 - M.srt q).toNat:Int))=M.srt q by omega]
  have:=Der.sort q [] _ [] hq hy .nil
  rw [List.append_nil] at this
  exact this
 ·exact hB s j hj h3
theorem stepE_at {i:Nat} {t:Int} (h0:0<=t) (h:l[i]?=some t):∀ k,(k == i + 1)=true->stepE l C t (fun m=>m == i) k=true:=fun k hk=>by
 rw [beq_iff_eq] at hk
 exact (step_term h0).2 ⟨i,hk,by simp,h⟩
theorem beg_complete (hC:TellsE M l C) (hcl:ClosedE M l C) (hb:ClosedB M l C B) (hend:∀ q,M.isP q->B (-1 - M.srt q).toNat l.length=true) (hsrt:∀ q,M.isP q->M.srt q < 0) {rs x:List Int} (h:Der M rs x):∀ {i:Nat} {y:List Int},i<=l.length->x=seg l i l.length ++ y->BegR l C B rs (fun m=>m == i):=by
 induction h with
 | nil =>
  intro i y hi hx
  have:=congrArg List.length hx
  rw [List.length_append,seg_len (Nat.le_refl _),List.length_nil] at this
  obtain rfl:i=l.length:=by omega
  exact .inl (by show (l.length == l.length)=true; simp)
 | term t rs w h0 _ ih =>
  intro i y hi hx
  by_cases hn:i=l.length
  ·refine .inr ⟨0,i,t,rfl,hi,by show (i == i)=true; simp,?_⟩
   unfold oneE
   rw [if_pos h0,hn]
   simp
  ·have hm:i < l.length:=by omega
   have h1:=seg_app (l:=l) (show i<=i + 1 by omega) (show i + 1<=l.length by omega)
   rw [seg_one (geQ hm)] at h1
   rw [<-h1] at hx
   have h2:t :: w=l[i] :: (seg l (i + 1) l.length ++ y):=hx
   injection h2 with h3 h4
   have h5:=ih (by omega) h4
   exact BegR.cons (h5.mono (stepE_at h0 (by rw [geQ hm,h3])))
 | sort q rs x w hq h1 _ ih1 ih2 =>
  intro i y hi hx
  by_cases hlen:x.length<=l.length - i
  ·have hlx:x=seg l i (i + x.length)/\w=seg l (i + x.length) l.length ++ y:=by
    have h2:=seg_app (l:=l) (show i<=i + x.length by omega) (show i + x.length<=l.length by omega)
    rw [<-h2,List.append_assoc] at hx
    exact List.append_inj hx (by rw [seg_len (by omega)]; omega)
   have h5:=ih2 (by omega) hlx.2
   have h6:C (-1 - M.srt q).toNat i (i + x.length)=true:=by
    have hs:=hsrt q hq
    refine (span_iff hC hcl hsrt (by omega) (by omega)).2 ?_
    rw [show (-1 - ((-1 - M.srt q).toNat:Int))=M.srt q by omega,<-hlx.1]
    have:=Der.sort q [] x [] hq h1 .nil
    rw [List.append_nil] at this
    exact this
   refine BegR.cons (h5.mono fun k hk=>?_)
   rw [beq_iff_eq] at hk
   subst hk
   exact (step_sort (hsrt q hq)).2 ⟨i,by omega,by simp,h6⟩
  ·obtain ⟨y1,hy1⟩:∃ y1,x=seg l i l.length ++ y1:=by
    have hl:=seg_len (l:=l) (m:=i) (Nat.le_refl l.length)
    have h2:=congrArg (List.take x.length) hx
    rw [List.take_left,List.take_append,List.take_of_length_le (by omega)] at h2
    exact ⟨_,h2⟩
   have h3:=ih1 hi hy1
   have h4:=hb q hq i hi (begE_iff.2 h3)
   refine .inr ⟨0,i,M.srt q,rfl,hi,by show (i == i)=true; simp,?_⟩
   unfold oneE
   rw [if_neg (by have:=hsrt q hq; omega)]
   exact h4
theorem begs_iff (hC:TellsE M l C) (hcl:ClosedE M l C) (hB:TellsB M l B) (hb:ClosedB M l C B) (hend:∀ q,M.isP q->B (-1 - M.srt q).toNat l.length=true) (hsrt:∀ q,M.isP q->M.srt q < 0) {s:Nat} : (∃ q,M.isP q/\M.srt q=-1 - (s:Int))->(B s 0=true ↔ ∃ y,Der M [-1 - (s:Int)] (l ++ y)):=fun ⟨q,hq,hqs⟩=>by
 constructor
 ·intro h
  have:=hB s 0 (Nat.zero_le _) h
  rw [seg_whole] at this
  exact this
 ·rintro ⟨y,hy⟩
  have h1:=beg_complete hC hcl hb hend hsrt hy (Nat.zero_le _) (by rw [seg_whole])
  rcases h1 with h1 | ⟨k,j,u,h1,h2,h3,h4⟩
  ·have h5:stepE l C (-1 - (s:Int)) (fun m=>m == 0) l.length=true:=h1
   obtain ⟨m,e1,e2,e3⟩:=(step_sort (by omega)).1 h5
   rw [beq_iff_eq] at e2
   subst e2
   rw [show (-1 - (-1 - (s:Int))).toNat=s by omega] at e3
   have h6:=(span_iff hC hcl hsrt (Nat.zero_le _) (Nat.le_refl _)).1 e3
   have h7:=hend q hq
   -- from a whole derivation: the last step's production
   have:∃ p,M.isP p/\M.srt p=-1 - (s:Int)/\Der M (M.rt p) (seg l 0 l.length):=by
    generalize hz:seg l 0 l.length=z at h6
    generalize hr:[-1 - (s:Int)]=r at h6
    cases h6 with
    | nil=>cases hr
    | term t rs w h0 _=>injection hr with h8; omega
    | sort p rs x w hp g1 g2 =>
     injection hr with h8 h9
     subst h9
     cases g2
     exact ⟨p,hp,h8.symm,by rw [List.append_nil]; exact g1⟩
   obtain ⟨p,hp,hps,hd⟩:=this
   have h8:=beg_complete hC hcl hb hend hsrt hd (y:=[]) (Nat.zero_le _) (by rw [List.append_nil])
   have h9:=hb p hp 0 (Nat.zero_le _) (begE_iff.2 h8)
   rw [hps,show (-1 - (-1 - (s:Int))).toNat=s by omega] at h9
   exact h9
  ·have hk:k=0:=by
    have:=(List.getElem?_eq_some_iff.1 h1).1
    simpa using this
   subst hk
   obtain rfl:-1 - (s:Int)=u:=by simpa using h1
   have h5:(j == 0)=true:=h3
   rw [beq_iff_eq] at h5
   subst h5
   unfold oneE at h4
   rw [if_neg (by omega),show (-1 - (-1 - (s:Int))).toNat=s by omega] at h4
   exact h4
end
end LR
end Go.Proofs.YticmnfmijdgmbaaGreatDoor

namespace Go.Proofs.YticmnfmijdgmbaaGreatDoor
open X14 (It iterB BuiltOk rightX)
open S13 (RowOk E0 F0 valid_rows)
open S13.X15 (Pl cxB)
open S16
section
variable {G:GD} {n:Nat} {A:Pl->Nat}
theorem der_in {D:Nat->Nat->List It} (hV:validB G=true) {rs x:List Int} (h:LR.Der (mG G n D) rs x):RowOk G.terms.length G.sorts.length rs->∀ t ∈ x,0<=t/\t < (G.terms.length:Int):=by
 induction h with
 | nil=>intro _ t ht; cases ht
 | term t rs w h0 _ ih =>
  intro hr u hu
  rcases List.mem_cons.1 hu with rfl | hu
  ·rcases hr u List.mem_cons_self with h | h
   ·exact ⟨h.1,h.2⟩
   ·omega
  ·exact ih (fun s hs=>hr s (List.mem_cons_of_mem _ hs)) u hu
 | sort q rs x w hq _ _ ih1 ih2 =>
  intro hr u hu
  have hq':0<=q/\q < (G.prods.length:Int):=hq
  rcases List.mem_append.1 hu with hu | hu
  ·exact ih1 (rt_ok hV q (by omega) hq'.2) u hu
  ·exact ih2 (fun s hs=>hr s (List.mem_cons_of_mem _ hs)) u hu
theorem srt_low {D:Nat->Nat->List It} (hV:validB G=true):∀ q,(mG G n D).isP q->(mG G n D).srt q < 0:=fun q hq=>by
 obtain ⟨p,hp,e⟩:=isp_prod hq
 have:=(row_of hV hp).1
 rw [<-e,srt_at hp]
 omega
theorem start_row (hV:validB G=true):RowOk G.terms.length G.sorts.length [-1 - G.start]:=fun s hs=>by
 obtain rfl:s=-1 - G.start:=by simpa using hs
 have:=S13.valid_start hV
 right
 omega
theorem start_cast (hV:validB G=true):-1 - (G.start.toNat:Int)=-1 - G.start:=by
 have:=S13.valid_start hV
 omega
end
end Go.Proofs.YticmnfmijdgmbaaGreatDoor
