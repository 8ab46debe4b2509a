/- The table of Begins, as it lies in memory. -/
import Derived.Test.YticmnfmijdgmbaaGreatDoorYu
import Derived.Test.YticmnfmijdgmbaaGreatDoorXd
import Derived.Test.YticmnfmijdgmbaaGreatDoorZr
import Derived.Test.YticmnfmijdgmbaaGreatDoorZt
import Derived.Test.YticmnfmijdgmbaaGreatDoorXe
import Derived.Laws.NewBlocks
import Derived.Test.YticmnfmijdgmbaaGreatDoorSl
import Derived.Test.YticmnfmijdgmbaaGreatDoorGa
set_option linter.unusedVariables false
set_option linter.unusedSimpArgs false
namespace Go.Proofs.YticmnfmijdgmbaaGreatDoor
open Go Go.RowKit Go.Lib
structure Leaf1 (w:World) (bv:Value) (S M:Nat) (leaf:Nat->Nat) (B:Nat->Nat->Bool):Prop where
 rows:RowsAt w bv S fun s u=>u=sl M (leaf s)
 at_:∀ s,s < S->w.heap[leaf s]?=some (bO M (B s))
 one:∀ s s',s < S->s' < S->leaf s=leaf s'->s=s'
theorem Leaf1.set {w:World} {bv:Value} {S M:Nat} {leaf:Nat->Nat} {B:Nat->Nat->Bool} (h:Leaf1 w bv S M leaf B) {s k:Nat} (hs:s < S) (hk:k < M) (v:Bool) :
  Leaf1 (w.setCell ⟨leaf s,k,none⟩ (.bool v)) bv S M leaf (fun s' k'=>if s'=s/\k'=k then v else B s' k'):=by
 have hb:=h.at_ s hs
 refine ⟨?_,fun s' hs'=>?_,h.one⟩
 ·obtain ⟨o,c,rfl,hl,hx⟩:=h.rows
  refine ⟨o,c,rfl,hl,fun h0=>?_⟩
  obtain ⟨b,off,rfl,hq⟩:=hx h0
  refine ⟨b,off,rfl,fun s' hs'=>?_⟩
  obtain ⟨u,h1,rfl⟩:=hq s' hs'
  exact ⟨_,slice_stays hb _ h1,rfl⟩
 ·by_cases he:leaf s'=leaf s
  ·obtain rfl:=h.one _ _ hs' hs he
   rw [bO_set hb hk v]
   congr 1
   refine bO_congr fun j _=>?_
   by_cases hj:j=k
   ·rw [if_pos hj,if_pos ⟨rfl,hj⟩]
   ·rw [if_neg hj,if_neg (fun h=>hj h.2)]
  ·rw [show (w.setCell ⟨leaf s,k,none⟩ (.bool v)).heap[leaf s']?=w.heap[leaf s']? from by
    have h1:=S13.heap_set (w:=w) (v:=.bool v) (p:=⟨leaf s,k,none⟩) (h.at_ s' hs') he
    rw [h1,h.at_ s' hs']]
   rw [h.at_ s' hs']
   congr 1
   refine bO_congr fun j _=>?_
   rw [if_neg (fun h=>he (by rw [h.1]))]
theorem Leaf1.below {w w':World} {bv:Value} {S M:Nat} {leaf:Nat->Nat} {B:Nat->Nat->Bool} (h:Leaf1 w bv S M leaf B) (hb:Below w.heap.size w w'):Leaf1 w' bv S M leaf B:=
 ⟨h.rows.below hb fun _ _ e=>e,fun s hs=>(hb.block _ (Array.getElem?_eq_some_iff.1 (h.at_ s hs)).1).trans (h.at_ s hs),h.one⟩
theorem leaf1_laid {B S M:Nat} {W w:World} {o:Item} {v:Value} {P:Nat->Bool} {L:List Nat} (h:Foot B W w [o,leavesI M P L,queI B 1 v S (L.map (sl M))]) (hL:L.length=S) (hN:L.Nodup):Leaf1 w v S M (fun s=>L.getD s 0) (fun _=>P)/\∀ s,s < S->L.getD s 0 ∈ L:=by
 have mem:∀ s,s < S->L.getD s 0 ∈ L:=fun s hs=>by
  rw [gdQ,geQ (by omega)]
  exact List.getElem_mem _
 have hq:ownsT w B 1 v S (L.map (sl M)):=h.ok 2 _ rfl
 have e:(L.map (sl M)).length=S:=by rw [List.length_map,hL]
 refine ⟨⟨?_,fun s hs=>h.ok 1 _ rfl _ (mem s hs),fun s s' hs hs' he=>?_⟩,mem⟩
 ·rw [<-e] at hq ⊢
  refine RowsAt.of_own hq fun i u hi=>?_
  rw [List.getElem?_map] at hi
  cases hx:L[i]? with
  | none=>rw [hx] at hi; cases hi
  | some k =>
   rw [hx] at hi
   rw [gdQ,hx]
   exact (Option.some.inj hi).symm
 ·rw [gdQ,geQ (by omega),gdQ,geQ (by omega)] at he
  exact nodup_inj hN _ _ he
def cnt2 (S M:Nat) (B:Nat->Nat->Bool):Nat:=(List.range (S * M)).countP fun x=>!B (x / M) (x % M)
theorem cnt2_set {S M:Nat} {B:Nat->Nat->Bool} {s k:Nat} (hs:s < S) (hk:k < M) (hB:B s k=false):cnt2 S M (fun s' k'=>if s'=s/\k'=k then true else B s' k') < cnt2 S M B:=by
 have e1:(s * M + k) / M=s:=by rw [Nat.add_comm,Nat.add_mul_div_right _ _ (by omega),Nat.div_eq_of_lt hk,Nat.zero_add]
 have e2:(s * M + k) % M=k:=by rw [Nat.add_comm,Nat.add_mul_mod_self_right,Nat.mod_eq_of_lt hk]
 unfold cnt2
 refine countP_lt _ (fun x _ hx=>?_) ⟨s * M + k,?_,?_,?_⟩
 ·replace hx:(!(if x / M=s/\x % M=k then true else B (x / M) (x % M)))=true:=hx
  by_cases h:x / M=s/\x % M=k
  ·simp [h] at hx
  ·rw [if_neg h] at hx; exact hx
 ·rw [List.mem_range]
  have:(s + 1) * M<=S * M:=Nat.mul_le_mul_right _ hs
  rw [Nat.add_mul,Nat.one_mul] at this
  omega
 ·rw [e1,e2,hB]; rfl
 ·rw [e1,e2]
  show (!(if s=s/\k=k then true else B s k))=false
  rw [if_pos ⟨rfl,rfl⟩]
  rfl
end Go.Proofs.YticmnfmijdgmbaaGreatDoor

namespace Go.Proofs.YticmnfmijdgmbaaGreatDoor.S13
open X14 (It exG)
namespace X15
open X14 (rightX behX sortX closeX stepX iterB BuiltOk symsX InC thereX)
def cntW (l:List It):Nat:=(l.filter fun x=>decide (x.1=-1)).length
def cntS (C:Nat->List It) (n:Nat):Nat:=((List.range n).map fun i=>cntW (C i)).sum
end X15
end Go.Proofs.YticmnfmijdgmbaaGreatDoor.S13

namespace Go.Proofs.YticmnfmijdgmbaaGreatDoor
open Go Go.RowKit Go.Lib
open X14 (It exG closeX iterB BuiltOk BuiltMany rightX behX sortX)
open S13 (u64 bitN top E0 F0 Sub hasN)
open S16
open S13.X15 (Pl LeastA askX places cxB)
section
open LR
variable {M:Mach} {t:Int}
end
theorem live_of {G:GD} {n:Nat} {D:Nat->Nat->List It} (hV:validB G=true) {L:List Bool} (h:S13.Reach true G.prods (List.replicate G.sorts.length false) L):∀ s:Int,S13.isK true L s=true->∃ y,LR.Der (mG G n D) [s] y:=by
 induction h with
 | refl =>
  intro s hs
  unfold S13.isK at hs
  split at hs
  ·rw [gdQ,List.getElem?_replicate] at hs
   split at hs <;> simp at hs
  ·exact ⟨[s],.term s [] [] (by omega) .nil⟩
 | step hr hp ih =>
  rename_i L p
  intro s hs
  by_cases hs0:s < 0
  ·unfold S13.isK at hs
   rw [if_pos hs0] at hs
   unfold S13.stepB at hs
   rw [gdQ,List.getElem?_set] at hs
   have old:L.getD (-1 - s).toNat false=true->∃ y,LR.Der (mG G n D) [s] y:=fun h=>ih s (by unfold S13.isK; rw [if_pos hs0]; exact h)
   split at hs
   ·rename_i e
    split at hs
    ·rw [Option.getD_some,Bool.or_eq_true] at hs
     rcases hs with hs | hs
     ·exact old (by rw [<-e]; exact hs)
     ·obtain ⟨q,hq⟩:=List.mem_iff_getElem?.1 hp
      have h0:=(row_of hV hq).1
      have e2:s=-1 - p.sort:=by omega
      have key:∀ l:List Int,(∀ x ∈ l,∃ y,LR.Der (mG G n D) [x] y)->∃ y,LR.Der (mG G n D) l y:=by
       intro l
       induction l with
       | nil=>exact fun _=>⟨[],.nil⟩
       | cons a l ihl =>
        intro hl
        obtain ⟨x,hx⟩:=hl a List.mem_cons_self
        obtain ⟨y,hy⟩:=ihl fun z hz=>hl z (List.mem_cons_of_mem _ hz)
        exact ⟨x ++ y,LR.Der.app (l:=[a]) hx hy⟩
      obtain ⟨y,hy⟩:=key p.rs fun x hx=>ih x (List.all_eq_true.1 hs x hx)
      refine ⟨y ++ [],?_⟩
      rw [e2,<-srt_at (n:=n) (D:=D) hq]
      exact .sort (q:Int) [] y [] (isp_at hq) (by rw [rt_at hq]; exact hy) .nil
    ·cases hs
   ·exact old (by rw [gdQ]; exact hs)
  ·exact ⟨[s],.term s [] [] (by omega) .nil⟩
theorem U64s.at_ {w:World} {o:Option Addr} {n c:Nat} {us:List Nat} (h:U64s w (.slice o n c) us) {k:Nat} (hk:k < us.length):∃ b off,o=some ⟨b,off,none⟩/\w.cell? ⟨b,off + k,none⟩=some (u64 (us.getD k 0)):=by
 obtain ⟨o',c',e,_,hcs⟩:=h
 injection e with e1 e2 e3
 subst e1
 obtain ⟨b,off,rfl,hq⟩:=hcs (by omega)
 exact ⟨b,off,rfl,hq k hk⟩
end Go.Proofs.YticmnfmijdgmbaaGreatDoor

namespace Go.Proofs.YticmnfmijdgmbaaGreatDoor
open X14 (It iterB BuiltOk rightX)
open S13 (RowOk E0 F0 valid_rows)
open S13.X15 (Pl cxB)
open S16
section
variable {G:GD} {n:Nat} {A:Pl->Nat}
theorem sym_live {D:Nat->Nat->List It} (hV:validB G=true) {L:List Bool} (hLv:S13.Least true G.prods G.sorts.length L) (hlive:∀ j,j < G.sorts.length->L.getD j false=true) {p:Int} {s:Int} (hs:s ∈ (mG G n D).rt p):∃ y,LR.Der (mG G n D) [s] y:=by
 by_cases h0:0<=s
 ·exact ⟨[s],.term s [] [] h0 .nil⟩
 ·refine live_of hV hLv.1 s ?_
  unfold S13.isK
  rw [if_pos (by omega)]
  have hr:(mG G n D).rt p=rightX G p:=rfl
  have key:∃ p':Int,-1<=p'/\p' < (G.prods.length:Int)/\s ∈ rightX G p':=by
   rw [hr] at hs
   by_cases hp1:p=-1
   ·exact ⟨-1,by omega,by omega,hp1 ▸ hs⟩
   ·by_cases hp:p.toNat < G.prods.length
    ·refine ⟨(p.toNat:Int),by omega,by omega,?_⟩
     unfold X14.rightX at hs ⊢
     rw [if_neg hp1] at hs
     rw [if_neg (by omega),Int.toNat_natCast]
     exact hs
    ·have hz:rightX G p=[]:=by
      unfold X14.rightX
      rw [if_neg hp1,gdQ,List.getElem?_eq_none (by omega)]
      rfl
     rw [hz] at hs
     cases hs
  obtain ⟨p',h1,h2,h3⟩:=key
  have:=rt_ok hV p' h1 h2 s h3
  exact hlive _ (by omega)
theorem sort_live {D:Nat->Nat->List It} (hV:validB G=true) {L:List Bool} (hLv:S13.Least true G.prods G.sorts.length L) (hlive:∀ j,j < G.sorts.length->L.getD j false=true) {s:Nat} (hs:s < G.sorts.length):∃ y,LR.Der (mG G n D) [-1 - (s:Int)] y:=
 live_of hV hLv.1 _ (by
  unfold S13.isK
  rw [if_pos (by omega),show (-1 - (-1 - (s:Int))).toNat=s by omega]
  exact hlive s hs)
theorem der_prod {M:LR.Mach} {s:Int} (h0:s < 0) {y:List Int} (h:LR.Der M [s] y):∃ q,M.isP q/\M.srt q=s:=by
 generalize hr:[s]=r at h
 cases h with
 | nil=>cases hr
 | term t rs w h1 _=>injection hr with h2; omega
 | sort p rs x w hp _ _=>injection hr with h2; exact ⟨p,hp,h2.symm⟩
theorem run_take {l x r:List Int} (h:l=x ++ r):l.take (l.length - r.length)=x:=by
 subst h
 rw [List.length_append,Nat.add_sub_cancel,List.take_left]
theorem beg_run (hV:validB G=true) (hO:BuiltOk G n) (hL:LA G n A) (hno:clX (cntS (dS G n A)) (G.terms.length + 1) n=[]) {L:List Bool} (hLv:S13.Least true G.prods G.sorts.length L) (hlive:∀ j,j < G.sorts.length->L.getD j false=true) {l r:List Int} {b:Bool} (h:LR.Runs (mG G n (dS G n A)) (fun t=>0<=t/\t < (G.terms.length:Int)) [0] l b r) :
  ∃ y,LR.Der (mG G n (dS G n A)) [-1 - G.start] (l.take (l.length - r.length) ++ y):=by
 have hM:=machine_ok hV hO hL (fun i k hi hk=>clX_none hno i k hi (by omega))
 obtain ⟨x,y,h1,h2⟩:=LR.runs_begins hM (fun p d s hs=>sym_live hV hLv hlive (List.mem_of_getElem? hs)) (fun i σ γ hp=>path_item hO hp) h
 exact ⟨y,by rw [run_take h1]; exact h2⟩
theorem beg_not (hV:validB G=true) (hO:BuiltOk G n) (hL:LA G n A) (hno:clX (cntS (dS G n A)) (G.terms.length + 1) n=[]) {l r:List Int} (h:LR.Runs (mG G n (dS G n A)) (fun t=>0<=t/\t < (G.terms.length:Int)) [0] l false r) (hr:r ≠ []) (y:List Int) :
  ¬ LR.Der (mG G n (dS G n A)) [-1 - G.start] (l.take (l.length - r.length + 1) ++ y):=by
 have hM:=machine_ok hV hO hL (fun i k hi hk=>clX_none hno i k hi (by omega))
 have h63:¬ (0<=(63:Int)/\(63:Int) < (G.terms.length:Int)):=fun h=>by have:=(S13.valid_few hV).1; omega
 obtain ⟨x,hx⟩:=h.left
 cases r with
 | nil=>exact absurd rfl hr
 | cons t r =>
  have e:l.take (l.length - (t :: r).length + 1)=x ++ [t]:=by
   have h1:=run_take hx.symm
   have hl:=congrArg List.length hx
   rw [List.length_append,List.length_cons] at hl
   rw [List.take_add_one,h1,<-hx,List.getElem?_append_right (by rw [List.length_append,List.length_cons]; omega)]
   congr 1
   rw [show (x ++ t :: r).length - (t :: r).length - x.length=0 by rw [List.length_append]; omega]
   rfl
  rw [e,List.append_assoc]
  intro hd
  rw [<-hx] at h
  exact LR.runs_no hM h63 h y (der_in hV hd (start_row hV)) hd
end
end Go.Proofs.YticmnfmijdgmbaaGreatDoor

namespace Go.Proofs.YticmnfmijdgmbaaGreatDoor.S13
abbrev cf (l:List Bool):Nat:=l.count false
section
variable {σ:Type} {Inv:σ->Prop} {pat:σ->List Bool} {us:List (σ->σ)}
structure Turns (Inv:σ->Prop) (pat:σ->List Bool) (us:List (σ->σ)):Prop where
 keep:∀ u ∈ us,∀ L,Inv L->Inv (u L)
 same:∀ u ∈ us,∀ L L',Inv L->Inv L'->pat L=pat L'->pat (u L)=pat (u L')
 less:∀ u ∈ us,∀ L,Inv L->pat (u L)=pat L\/cf (pat (u L)) < cf (pat L)
def roundU (us:List (σ->σ)) (L:σ):σ:=us.foldl (fun L u=>u L) L
theorem Turns.tail {u:σ->σ} (h:Turns Inv pat (u :: us)):Turns Inv pat us:=
 ⟨fun v hv=>h.keep v (List.mem_cons_of_mem _ hv),fun v hv=>h.same v (List.mem_cons_of_mem _ hv),fun v hv=>h.less v (List.mem_cons_of_mem _ hv)⟩
theorem Turns.inv:∀ {us:List (σ->σ)},Turns Inv pat us->∀ L,Inv L->Inv (roundU us L)
 | [],_,_,hL=>hL
 | u :: us,h,L,hL=>Turns.inv (us:=us) h.tail (u L) (h.keep u List.mem_cons_self L hL)
theorem Turns.round:∀ {us:List (σ->σ)},Turns Inv pat us->∀ L,Inv L->(pat (roundU us L)=pat L/\∀ u ∈ us,pat (u L)=pat L)\/cf (pat (roundU us L)) < cf (pat L)
 | [],_,L,_=>.inl ⟨rfl,fun _ h=>absurd h (by simp)⟩
 | u :: us,h,L,hL=>by
  have hu:=h.keep u List.mem_cons_self L hL
  have ih:=Turns.round (us:=us) h.tail (u L) hu
  rcases h.less u List.mem_cons_self L hL with h1 | h1
  ·rcases ih with ⟨h2,h3⟩ | h2
   ·left
    refine ⟨h2.trans h1,fun v hv=>?_⟩
    rcases List.mem_cons.1 hv with rfl | hv
    ·exact h1
    ·rw [<-h.same v (List.mem_cons_of_mem _ hv) (u L) L hu hL h1,h3 v hv,h1]
   ·right
    rw [h1] at h2
    exact h2
  ·right
   rcases ih with ⟨h2,_⟩ | h2
   ·show cf (pat (roundU us (u L))) < _
    rw [h2]; exact h1
   ·exact Nat.lt_trans h2 h1
theorem Turns.still (h:Turns Inv pat us) {L:σ} (hL:Inv L) (hc:∀ u ∈ us,pat (u L)=pat L):∀ u ∈ us,pat (u (roundU us L))=pat (roundU us L):=by
 have hr:pat (roundU us L)=pat L:=by
  rcases h.round L hL with ⟨h1,_⟩ | h1
  ·exact h1
  ·exfalso
   have:∀ (vs:List (σ->σ)),Turns Inv pat vs->∀ M,Inv M->pat M=pat L->(∀ u ∈ vs,pat (u L)=pat L)->pat (roundU vs M)=pat L:=by
    intro vs
    induction vs with
    | nil=>exact fun _ M _ hM _=>hM
    | cons v vs ih =>
     intro ht M hI hM hcv
     exact ih ht.tail (v M) (ht.keep v List.mem_cons_self M hI) ((ht.same v List.mem_cons_self M L hI hL hM).trans (hcv v List.mem_cons_self)) (fun u hu=>hcv u (List.mem_cons_of_mem _ hu))
   rw [this us h L hL rfl hc] at h1
   exact Nat.lt_irrefl _ h1
 intro u hu
 rw [h.same u hu _ L (h.inv L hL) hL hr,hc u hu,hr]
def roundsU (us:List (σ->σ)):Nat->σ->σ
 | 0,L=>L
 | n + 1,L=>roundU us (roundsU us n L)
theorem Turns.invs (h:Turns Inv pat us) {L:σ} (hL:Inv L):∀ n,Inv (roundsU us n L)
 | 0=>hL
 | n + 1=>h.inv _ (h.invs hL n)
theorem Turns.enough (h:Turns Inv pat us) {L:σ} (hL:Inv L):∀ n,(∀ u ∈ us,pat (u (roundsU us n L))=pat (roundsU us n L))\/cf (pat (roundsU us n L)) + n<=cf (pat L)
 | 0=>.inr (Nat.le_refl _)
 | n + 1=>by
  rcases h.enough hL n with h1 | h1
  ·exact .inl (h.still (h.invs hL n) h1)
  ·rcases h.round _ (h.invs hL n) with ⟨_,h2⟩ | h2
   ·exact .inl (h.still (h.invs hL n) h2)
   ·right
    show cf (pat (roundU us (roundsU us n L))) + (n + 1)<=_
    omega
theorem Turns.closed (h:Turns Inv pat us) {L:σ} (hL:Inv L) {n:Nat} (hn:cf (pat L)<=n):∀ u ∈ us,pat (u (roundsU us (n + 1) L))=pat (roundsU us (n + 1) L):=by
 rcases h.enough hL (n + 1) with h1 | h1
 ·exact h1
 ·omega
end
def usB (k:Bool) (ps:List PD):List (List Bool->List Bool):=ps.map fun p L=>stepB k L p
theorem turnsB {k:Bool} {ps:List PD} {n:Nat} (hs:∀ p ∈ ps,p.sort.toNat < n):Turns (fun L:List Bool=>L.length=n) id (usB k ps):=by
 refine ⟨fun u hu L hL=>?_,fun u _ L L' _ _ e=>by rw [show L=L' from e],fun u hu L hL=>?_⟩
 ·obtain ⟨p,_,rfl⟩:=List.mem_map.1 hu
  show (stepB k L p).length=n
  rw [stepB_length]; exact hL
 ·obtain ⟨p,hp,rfl⟩:=List.mem_map.1 hu
  rcases step_cases k L p (by have:=hs p hp; have:L.length=n:=hL; omega) with ⟨_,h,_⟩ | ⟨_,h⟩
  ·exact .inl h
  ·exact .inr h
theorem reach_roundsB {k:Bool} {ps:List PD} {L0:List Bool} (n:Nat):Reach k ps L0 (roundsU (usB k ps) n L0):=by
 induction n with
 | zero=>exact .refl
 | succ n ih =>
  have:∀ (qs:List PD),(∀ q ∈ qs,q ∈ ps)->∀ M,Reach k ps L0 M->Reach k ps L0 (roundU (usB k qs) M):=by
   intro qs
   induction qs with
   | nil=>exact fun _ M h=>h
   | cons q qs ih2=>exact fun hq M h=>ih2 (fun x hx=>hq x (List.mem_cons_of_mem _ hx)) _ (.step h (hq q List.mem_cons_self))
  exact this ps (fun _ h=>h) _ ih
theorem least_rounds {k:Bool} {ps:List PD} {n:Nat} (hs:∀ p ∈ ps,p.sort.toNat < n):Least k ps n (roundsU (usB k ps) (n + 1) (List.replicate n false)):=by
 refine ⟨reach_roundsB _,fun p hp ha=>?_⟩
 have hc:=(turnsB (k:=k) hs).closed (L:=List.replicate n false) (by simp) (n:=n) (by show (List.replicate n false).count false<=n; simp) _ (List.mem_map.2 ⟨p,hp,rfl⟩)
 have hl:=(turnsB (k:=k) hs).invs (L:=List.replicate n false) (by simp) (n + 1)
 generalize roundsU (usB k ps) (n + 1) (List.replicate n false)=M at *
 have h1:stepB k M p=M:=hc
 have h2:=congrArg (fun l=>l.getD p.sort.toNat false) h1
 simp only [stepB] at h2
 rw [gdQ,List.getElem?_set_self (by have:=hs p hp; have:M.length=n:=hl; omega)] at h2
 rw [<-h2,ha]
 simp
open Go Go.RowKit Go.Lib Go.Joins
theorem roundB_snoc {k:Bool} {ps:List PD} {L:List Bool} {j:Nat} (h:j < ps.length):roundU (usB k (ps.take (j + 1))) L=stepB k (roundU (usB k (ps.take j)) L) (ps.getD j default):=by
 unfold roundU usB
 rw [List.take_add_one,List.map_append,List.foldl_append,gdQ,geQ h]
 rfl
set_option maxRecDepth 100000 in
set_option maxHeartbeats 4000000 in
theorem RLives_any {G:GD} {gv tv ov sv pv:Value} {tf:Nat->Nat->Value} {rv:Nat->Value} {w:World} (h:GrAt w gv G tv ov sv pv tf rv) (hV:validB G=true) :
  Calls Tryz.prog 84 #[gv] w fun e W'=>∃ lb L,e=.returned (.slice (some ⟨lb,0,none⟩) G.sorts.length G.sorts.length)/\Least true G.prods G.sorts.length L/\W'.heap[lb]?=some (.cells (L.map Value.bool).toArray 4)/\w.heap.size<=lb/\Below w.heap.size w W':=by
 obtain ⟨W1,B,hW1,hB,c0,c1,c2,c3,c4,hG,hb,hsz⟩:=gr_box h
 subst hB
 have kv:=RValid_any hG
 rw [hV] at kv
 have HV:=hid hV
 have HR:=hid hG.rights
 have hgv:=h.eq
 have hs:=hG.sorts
 have hp:=hG.prods
 subst hgv
 obtain ⟨sa,sc,rfl,hsn,_⟩:=hs
 obtain ⟨pa,pc,rfl,hpn,hp⟩:=hp
 have HP:=hid hp
 clear hp h hG
 obtain ⟨n60,s60,p120⟩:=valid_few hV
 have hsort:∀ p ∈ G.prods,p.sort.toNat < G.sorts.length:=fun p hp=>by
  obtain ⟨h1,h2,_⟩:=valid_rows hV p hp
  omega
 have HLE:=hid (least_rounds (k:=true) hsort)
 have hz1:w.heap.size < W1.heap.size:=by rw [hW1]; simp
 clear hV hsort
 generalize hns:G.sorts.length=ns at *
 generalize hnp:G.prods.length=np at *
 have HNP:=hid hnp
 have HNS:=hid hns
 clear hnp hns
 go_enter Tryz.func84,Tryz.ntmps84
 go_wp2_with fail
 rw [<-hW1]
 clear hW1
 refine kv.mono ?_
 rintro e w1 ⟨rfl,hB1⟩
 have d2:=cell_below hB1 c2
 have d3:=cell_below hB1 c3
 have km:=made_bools ns (by omega)
 have i0:(0:Int)<=(ns:Int):=by omega
 obtain ⟨w2,hw2⟩:∃ w2,w2=w1.alloc (.cells (Array.replicate ns (.bool false)) 4):=⟨_,rfl⟩
 have hl0:w2.heap[w1.heap.size]?=some (.cells ((List.replicate ns false).map Value.bool).toArray 4):=by
  rw [hw2,show ((List.replicate ns false).map Value.bool).toArray=Array.replicate ns (.bool false) by simp]; exact new_block w1 _
 have hB2:Below w1.heap.size w1 w2:=by rw [hw2]; exact below_al (Below.refl _ _) _
 have hz2:=hB1.size
 have hBA:=hB1.trans (hB2.mono hz2)
 have e2:=cell_below hB2 d2
 have e3:=cell_below hB2 d3
 go_upto_region 5 with fail
 rw [<-hw2]
 clear hw2 km d2 d3
 generalize hlb:w1.heap.size=lb at *
 have hlb1:W1.heap.size<=lb:=by omega
 clear hlb
 have hBL:=hid hBA
 go_wp2_with fail
 go_loopw [5] (fun i wr=>∃ r:Nat,r<=ns + 1/\i=.int .i64 (r:Int)/\wr.heap[lb]?=some (.cells ((roundsU (usB true G.prods) r (List.replicate ns false)).map Value.bool).toArray 4)/\Far (fun k=>k=lb) w2 wr) (fun i _=>ns + 1 - (RowKit.intOf i).toNat)
 case atStart=>exact ⟨0,by omega,rfl,hl0,Far.refl _ _⟩
 case round =>
  clear e2 e3
  obtain ⟨r,hr,rfl,hl1,hF1⟩:=hrel
  have hBr:Below W1.heap.size W1 wr:=hBL.out.trans (hF1.toBelow hBL.out.size (by rintro k rfl; exact hlb1))
  have d2:=cell_below hBr c2
  have d3:=cell_below hBr c3
  by_cases hrn:r<=ns
  ·have r1:(r:Int)<=(ns:Int):=by omega
   have HF1:=hid hF1
   generalize hLr:roundsU (usB true G.prods) r (List.replicate ns false)=L0 at *
   have HLR:=hid hLr
   clear hLr
   go_wp2_with fail
   go_loopw [6] (fun i wr=>∃ j:Nat,j<=np/\i=.int .i64 (j:Int)/\wr.heap[lb]?=some (.cells ((roundU (usB true (G.prods.take j)) L0).map Value.bool).toArray 4)/\Far (fun k=>k=lb) w2 wr) (fun i _=>np - (RowKit.intOf i).toNat)
   case atStart=>exact ⟨0,by omega,rfl,hl1,HF1.out⟩
   case round =>
    clear d2 d3 hl1
    obtain ⟨j,hj,rfl,hl1,hF2⟩:=hrel
    have hBj:Below W1.heap.size W1 wr:=hBL.out.trans (hF2.toBelow hBL.out.size (by rintro k rfl; exact hlb1))
    have d2:=cell_below hBj c2
    have d3:=cell_below hBj c3
    by_cases hlt:j < np
    ·obtain ⟨b,off,rfl,hc⟩:=HP.out (by omega)
     obtain ⟨x0,x1,x2,x3⟩:=hc j hlt
     obtain ⟨v1,v2,v3,v4⟩:=prodB_sortNat (valid_prod HV.out (k:=j) (by have:=HNP.out; omega))
     obtain ⟨⟨ra,rc,hrv,hrn2,hrc⟩,hri⟩:=HR.out j (by have:=HNP.out; omega)
     rw [hrv] at x2
     have HSN:=hid (roundB_snoc (k:=true) (L:=L0) (j:=j) (ps:=G.prods) (by have:=HNP.out; omega))
     clear hc
     generalize hM:roundU (usB true (G.prods.take j)) L0=M at *
     generalize G.prods.getD j default=P at *
     obtain ⟨so,hso⟩:∃ so:Nat,P.sort=so:=⟨P.sort.toNat,by omega⟩
     rw [hso] at x1
     have hsn':so < ns:=by have:=HNS.out; omega
     have hstep:stepB true M P=M.set so (M.getD so false || P.rs.all (isK true M)):=by unfold stepB; rw [hso]; rfl
     have HSTEP:=hid hstep
     replace x1:=cell_below hBj x1
     replace x2:=cell_below hBj x2
     have HRC:=hid hrc
     have HRI:=hid hri
     have HV4:=hid v4
     have hMl:M.length=ns:=by rw [<-hM]; exact (by have:=(turnsB (k:=true) (n:=ns) (ps:=G.prods.take j) (fun p hp=>by obtain ⟨h1,h2,_⟩:=valid_rows HV.out p (List.mem_of_mem_take hp); have:=HNS.out; omega)).inv L0 (by rw [<-HLR.out]; exact (turnsB (k:=true) (n:=ns) (ps:=G.prods) (fun p hp=>by obtain ⟨h1,h2,_⟩:=valid_rows HV.out p hp; have:=HNS.out; omega)).invs (by simp) r); exact this)
     clear hrc hri hrv v1 v2 v3 v4 x0 x3 hso hstep hM
     have HML:=hid hMl
     clear hMl
     generalize hrl:P.rs.length=rl at *
     have HRL:=hid hrl
     clear hrl
     have j0:(0:Int)<=(j:Int):=by omega
     have j1:(j:Int) < (np:Int):=by omega
     have s0:(0:Int)<=(so:Int):=by omega
     have s1:(so:Int) < (ns:Int):=by omega
     have y1:=cell_bools hl1 (i:=so) (by have:=HML.out; omega)
     have u1:=unfrozen_of_block hl1 so
     go_wp2_with fail
     go_loop [7,8] (fun al i=>∃ q:Nat,q<=rl/\al=.bool ((P.rs.take q).all (isK true M))/\i=.int .i64 (q:Int)) (fun _ i=>rl - (RowKit.intOf i).toNat)
     case atStart=>exact ⟨0,by omega,rfl,rfl⟩
     case round =>
      obtain ⟨q,hq,rfl,rfl⟩:=hrel
      by_cases hql:q < rl
      ·obtain ⟨rb,ro,rfl,hcc⟩:=HRC.out (by have:=HRL.out; omega)
       have g:W1.cell? ⟨rb,ro + q,none⟩=some (.int .i64 (P.rs.getD q 0)):=hcc q (by have:=HRL.out; omega)
       replace g:=cell_below hBj g
       have hsv:=hid (HV4.out (P.rs.getD q 0) (mem_getD (by have:=HRL.out; omega)))
       have hsr:=hid (HRI.out (P.rs.getD q 0) (mem_getD (by have:=HRL.out; omega)))
       have HTA:=all_take P.rs (isK true M) 0 q (by have:=HRL.out; omega)
       clear hcc
       obtain ⟨s,hs⟩:=nmQ (P.rs.getD q 0)
       rw [hs] at g hsv hsr HTA
       clear hs
       have k0:(0:Int)<=(q:Int):=by omega
       have k1:(q:Int) < (rl:Int):=by omega
       by_cases hs0:0<=s
       ·have hs1:¬ (s < 0):=by omega
        have b5:decide (s < 0)=false:=decide_eq_false hs1
        have b6:decide (0<=s)=true:=decide_eq_true hs0
        rw [show isK true M s=true by unfold isK; rw [if_neg hs1]] at HTA
        have HTA:=hid HTA
        generalize (P.rs.take q).all (isK true M)=xa at *
        cases xa
        all_goals
         go_wp2
         exact ⟨⟨q + 1,by omega,by rw [HTA.out] <;> rfl,by go_num⟩,by simp [RowKit.intOf]; omega⟩
       ·have hs1:s < 0:=by omega
        have b5:decide (s < 0)=true:=decide_eq_true hs1
        have b6:decide (0<=s)=false:=decide_eq_false hs0
        obtain ⟨t,ht⟩:∃ t:Nat,-1 - s=(t:Int):=⟨(-1 - s).toNat,by omega⟩
        have htn:t < ns:=by have:=hsv.out; have:=HNS.out; omega
        have i5:IntKind.i64.wrap (-1 - s)=(t:Int):=by have:=hsr.out; rw [IntKind.wrap_i64]; omega
        have i7:(0:Int)<=(t:Int):=by omega
        have i8:(t:Int) < (ns:Int):=by omega
        rw [show isK true M s=M.getD t false by unfold isK; rw [if_pos hs1,show (-1 - s).toNat=t by omega]] at HTA
        have x4:=cell_bools hl1 (i:=t) (by have:=HML.out; omega)
        have HTA:=hid HTA
        have HT:=hid ht
        clear ht
        generalize (P.rs.take q).all (isK true M)=xa at *
        generalize M.getD t false=ea at *
        cases xa
        all_goals
         go_wp2
         exact ⟨⟨q + 1,by omega,by rw [HTA.out] <;> rfl,by go_num⟩,by simp [RowKit.intOf]; omega⟩
      ·have i2:¬ ((q:Int) < (rl:Int)):=by omega
       rw [List.take_of_length_le (by have:=HRL.out; omega)]
       rw [HSTEP.out] at HSN
       generalize P.rs.all (isK true M)=xa at *
       generalize hy:M.getD so false=ya at *
       clear hy
       have hset:(wr.drew.setCell ⟨lb,so,none⟩ (.bool (ya || xa))).heap[lb]?=some (.cells ((M.set so (ya || xa)).map Value.bool).toArray 4):=by
        have:=block_setCell (w:=wr.drew) (i:=so) hl1 (.bool (ya || xa))
        rw [this]
        simp [List.map_set]
       have HSET:=hid hset
       have HF3:Hid (Far (fun k=>k=lb) w2 (wr.drew.setCell ⟨lb,so,none⟩ (.bool (ya || xa)))):=Far.set (p:=⟨lb,so,none⟩) (Far.drew hF2) rfl _
       clear hset
       cases ya <;> cases xa
       ·go_wp2_with fail
        refine region_T 20 (fun w'=>w'.cell? ⟨w.heap.size,3,none⟩=some (.slice (some ⟨b,off,none⟩) np pc)/\w'.cell? ⟨b,off + j * 4 + 1,none⟩=some (.int .i64 (so:Int))/\w'.cell? ⟨lb,so,none⟩=some (.bool false)) (by kernel_rfl) ⟨d3,x1,y1⟩ (fun inv hHeld=>?_)
        iterate 20
         refine anyT_auto (v:=?_) rfl (by kernel_rfl) (fun _ _ _ h=>h) (Or.inl ⟨by rfl,?_⟩) hHeld inv (fun inv=>?_)
         rotate_left
         ·intro w hSw
          try dsimp only at hSw
          go_simp
          try with_reducible rfl
         simp only [Act.put,List.setIfInBounds_toArray,List.set_cons_zero,List.set_cons_succ]
        have s3:=hHeld.2.2
        refine anyT_one (i:=20) (o:={dst:=none,op:=Op.store 4 (Operand.tmp 83) (Operand.tmp 82),type:=0,pos := "ref.go:44",after:=#[{on:=19,ground:=Ground.data},{on:=18,ground:=Ground.data},{on:=16,ground:=Ground.chain},{on:=0,ground:=Ground.phase},{on:=1,ground:=Ground.phase},{on:=2,ground:=Ground.phase},{on:=3,ground:=Ground.phase},{on:=4,ground:=Ground.phase},{on:=5,ground:=Ground.phase},{on:=6,ground:=Ground.phase},{on:=7,ground:=Ground.phase},{on:=8,ground:=Ground.phase},{on:=9,ground:=Ground.phase},{on:=10,ground:=Ground.phase},{on:=11,ground:=Ground.phase},{on:=12,ground:=Ground.phase},{on:=13,ground:=Ground.phase},{on:=14,ground:=Ground.phase},{on:=15,ground:=Ground.phase},{on:=16,ground:=Ground.phase},{on:=17,ground:=Ground.phase},{on:=18,ground:=Ground.phase}],guard:=none}) (by kernel_rfl) rfl (fun K' hK=>?_)
        go_simp
        refine hK.out _ _ (fun h=>absurd h (by decide)) ?_
        clear hK K'
        try simp only [Act.put,List.setIfInBounds_toArray,List.set_cons_zero,List.set_cons_succ]
        refine anyT_done (by kernel_rfl) ?_ _
        go_wp2
        exact ⟨⟨j + 1,by omega,by go_num,by rw [HSN.out]; exact HSET.out,HF3.out⟩,by simp [RowKit.intOf]; omega⟩
       ·go_wp2_with fail
        refine region_T 20 (fun w'=>w'.cell? ⟨w.heap.size,3,none⟩=some (.slice (some ⟨b,off,none⟩) np pc)/\w'.cell? ⟨b,off + j * 4 + 1,none⟩=some (.int .i64 (so:Int))/\w'.cell? ⟨lb,so,none⟩=some (.bool false)) (by kernel_rfl) ⟨d3,x1,y1⟩ (fun inv hHeld=>?_)
        iterate 20
         refine anyT_auto (v:=?_) rfl (by kernel_rfl) (fun _ _ _ h=>h) (Or.inl ⟨by rfl,?_⟩) hHeld inv (fun inv=>?_)
         rotate_left
         ·intro w hSw
          try dsimp only at hSw
          go_simp
          try with_reducible rfl
         simp only [Act.put,List.setIfInBounds_toArray,List.set_cons_zero,List.set_cons_succ]
        have s3:=hHeld.2.2
        refine anyT_one (i:=20) (o:={dst:=none,op:=Op.store 4 (Operand.tmp 83) (Operand.tmp 82),type:=0,pos := "ref.go:44",after:=#[{on:=19,ground:=Ground.data},{on:=18,ground:=Ground.data},{on:=16,ground:=Ground.chain},{on:=0,ground:=Ground.phase},{on:=1,ground:=Ground.phase},{on:=2,ground:=Ground.phase},{on:=3,ground:=Ground.phase},{on:=4,ground:=Ground.phase},{on:=5,ground:=Ground.phase},{on:=6,ground:=Ground.phase},{on:=7,ground:=Ground.phase},{on:=8,ground:=Ground.phase},{on:=9,ground:=Ground.phase},{on:=10,ground:=Ground.phase},{on:=11,ground:=Ground.phase},{on:=12,ground:=Ground.phase},{on:=13,ground:=Ground.phase},{on:=14,ground:=Ground.phase},{on:=15,ground:=Ground.phase},{on:=16,ground:=Ground.phase},{on:=17,ground:=Ground.phase},{on:=18,ground:=Ground.phase}],guard:=none}) (by kernel_rfl) rfl (fun K' hK=>?_)
        go_simp
        refine hK.out _ _ (fun h=>absurd h (by decide)) ?_
        clear hK K'
        try simp only [Act.put,List.setIfInBounds_toArray,List.set_cons_zero,List.set_cons_succ]
        refine anyT_done (by kernel_rfl) ?_ _
        go_wp2
        exact ⟨⟨j + 1,by omega,by go_num,by rw [HSN.out]; exact HSET.out,HF3.out⟩,by simp [RowKit.intOf]; omega⟩
       ·go_wp2_with fail
        refine region_T 20 (fun w'=>w'.cell? ⟨w.heap.size,3,none⟩=some (.slice (some ⟨b,off,none⟩) np pc)/\w'.cell? ⟨b,off + j * 4 + 1,none⟩=some (.int .i64 (so:Int))/\w'.cell? ⟨lb,so,none⟩=some (.bool true)) (by kernel_rfl) ⟨d3,x1,y1⟩ (fun inv hHeld=>?_)
        iterate 17
         refine anyT_auto (v:=?_) rfl (by kernel_rfl) (fun _ _ _ h=>h) (Or.inl ⟨by rfl,?_⟩) hHeld inv (fun inv=>?_)
         rotate_left
         ·intro w hSw
          try dsimp only at hSw
          go_simp
          try with_reducible rfl
         simp only [Act.put,List.setIfInBounds_toArray,List.set_cons_zero,List.set_cons_succ]
        refine anyT_take (i:=17) (oi:={dst:=some 81,op:=Op.move (Operand.tmp 7),type:=4,pos := "ref.go:44",after:=#[{on:=16,ground:=Ground.guard}],guard:=some (16,false)}) (v:=undef) rfl (by kernel_rfl) (by kernel_rfl) (by kernel_rfl) (by decide) (by decide) (by kernel_rfl) (by kernel_rfl) (fun _ _ _ h=>h) (Or.inr ⟨by rfl,rfl⟩) hHeld inv (fun inv=>?_)
        simp only [Act.put,List.setIfInBounds_toArray,List.set_cons_zero,List.set_cons_succ]
        iterate 2
         refine anyT_auto (v:=?_) rfl (by kernel_rfl) (fun _ _ _ h=>h) (Or.inl ⟨by rfl,?_⟩) hHeld inv (fun inv=>?_)
         rotate_left
         ·intro w hSw
          try dsimp only at hSw
          go_simp
          try with_reducible rfl
         simp only [Act.put,List.setIfInBounds_toArray,List.set_cons_zero,List.set_cons_succ]
        have s3:=hHeld.2.2
        refine anyT_one (i:=20) (o:={dst:=none,op:=Op.store 4 (Operand.tmp 83) (Operand.tmp 82),type:=0,pos := "ref.go:44",after:=#[{on:=19,ground:=Ground.data},{on:=18,ground:=Ground.data},{on:=16,ground:=Ground.chain},{on:=0,ground:=Ground.phase},{on:=1,ground:=Ground.phase},{on:=2,ground:=Ground.phase},{on:=3,ground:=Ground.phase},{on:=4,ground:=Ground.phase},{on:=5,ground:=Ground.phase},{on:=6,ground:=Ground.phase},{on:=7,ground:=Ground.phase},{on:=8,ground:=Ground.phase},{on:=9,ground:=Ground.phase},{on:=10,ground:=Ground.phase},{on:=11,ground:=Ground.phase},{on:=12,ground:=Ground.phase},{on:=13,ground:=Ground.phase},{on:=14,ground:=Ground.phase},{on:=15,ground:=Ground.phase},{on:=16,ground:=Ground.phase},{on:=17,ground:=Ground.phase},{on:=18,ground:=Ground.phase}],guard:=none}) (by kernel_rfl) rfl (fun K' hK=>?_)
        go_simp
        refine hK.out _ _ (fun h=>absurd h (by decide)) ?_
        clear hK K'
        try simp only [Act.put,List.setIfInBounds_toArray,List.set_cons_zero,List.set_cons_succ]
        refine anyT_done (by kernel_rfl) ?_ _
        go_wp2
        exact ⟨⟨j + 1,by omega,by go_num,by rw [HSN.out]; exact HSET.out,HF3.out⟩,by simp [RowKit.intOf]; omega⟩
       ·go_wp2_with fail
        refine region_T 20 (fun w'=>w'.cell? ⟨w.heap.size,3,none⟩=some (.slice (some ⟨b,off,none⟩) np pc)/\w'.cell? ⟨b,off + j * 4 + 1,none⟩=some (.int .i64 (so:Int))/\w'.cell? ⟨lb,so,none⟩=some (.bool true)) (by kernel_rfl) ⟨d3,x1,y1⟩ (fun inv hHeld=>?_)
        iterate 17
         refine anyT_auto (v:=?_) rfl (by kernel_rfl) (fun _ _ _ h=>h) (Or.inl ⟨by rfl,?_⟩) hHeld inv (fun inv=>?_)
         rotate_left
         ·intro w hSw
          try dsimp only at hSw
          go_simp
          try with_reducible rfl
         simp only [Act.put,List.setIfInBounds_toArray,List.set_cons_zero,List.set_cons_succ]
        refine anyT_take (i:=17) (oi:={dst:=some 81,op:=Op.move (Operand.tmp 7),type:=4,pos := "ref.go:44",after:=#[{on:=16,ground:=Ground.guard}],guard:=some (16,false)}) (v:=undef) rfl (by kernel_rfl) (by kernel_rfl) (by kernel_rfl) (by decide) (by decide) (by kernel_rfl) (by kernel_rfl) (fun _ _ _ h=>h) (Or.inr ⟨by rfl,rfl⟩) hHeld inv (fun inv=>?_)
        simp only [Act.put,List.setIfInBounds_toArray,List.set_cons_zero,List.set_cons_succ]
        iterate 2
         refine anyT_auto (v:=?_) rfl (by kernel_rfl) (fun _ _ _ h=>h) (Or.inl ⟨by rfl,?_⟩) hHeld inv (fun inv=>?_)
         rotate_left
         ·intro w hSw
          try dsimp only at hSw
          go_simp
          try with_reducible rfl
         simp only [Act.put,List.setIfInBounds_toArray,List.set_cons_zero,List.set_cons_succ]
        have s3:=hHeld.2.2
        refine anyT_one (i:=20) (o:={dst:=none,op:=Op.store 4 (Operand.tmp 83) (Operand.tmp 82),type:=0,pos := "ref.go:44",after:=#[{on:=19,ground:=Ground.data},{on:=18,ground:=Ground.data},{on:=16,ground:=Ground.chain},{on:=0,ground:=Ground.phase},{on:=1,ground:=Ground.phase},{on:=2,ground:=Ground.phase},{on:=3,ground:=Ground.phase},{on:=4,ground:=Ground.phase},{on:=5,ground:=Ground.phase},{on:=6,ground:=Ground.phase},{on:=7,ground:=Ground.phase},{on:=8,ground:=Ground.phase},{on:=9,ground:=Ground.phase},{on:=10,ground:=Ground.phase},{on:=11,ground:=Ground.phase},{on:=12,ground:=Ground.phase},{on:=13,ground:=Ground.phase},{on:=14,ground:=Ground.phase},{on:=15,ground:=Ground.phase},{on:=16,ground:=Ground.phase},{on:=17,ground:=Ground.phase},{on:=18,ground:=Ground.phase}],guard:=none}) (by kernel_rfl) rfl (fun K' hK=>?_)
        go_simp
        refine hK.out _ _ (fun h=>absurd h (by decide)) ?_
        clear hK K'
        try simp only [Act.put,List.setIfInBounds_toArray,List.set_cons_zero,List.set_cons_succ]
        refine anyT_done (by kernel_rfl) ?_ _
        go_wp2
        exact ⟨⟨j + 1,by omega,by go_num,by rw [HSN.out]; exact HSET.out,HF3.out⟩,by simp [RowKit.intOf]; omega⟩
    ·have j1:¬ ((j:Int) < (np:Int)):=by omega
     rw [List.take_of_length_le (by have:=HNP.out; omega)] at hl1
     have HL2:Hid (wr.heap[lb]?=some (.cells ((roundsU (usB true G.prods) (r + 1) (List.replicate ns false)).map Value.bool).toArray 4)):=by
      show wr.heap[lb]?=some (.cells ((roundU (usB true G.prods) (roundsU (usB true G.prods) r (List.replicate ns false))).map Value.bool).toArray 4)
      rw [HLR.out]; exact hl1
     have HF2:=hid hF2
     clear hl1 hF2
     go_wp2
     exact ⟨⟨r + 1,by omega,by go_num,HL2.out,HF2.out⟩,by simp [RowKit.intOf]; omega⟩
  ·obtain rfl:r=ns + 1:=by omega
   have r1:¬ (((ns + 1:Nat):Int)<=(ns:Int)):=by omega
   have HL1:=hid hl1
   clear hl1
   go_wp2
   go_ret
   exact ⟨lb,rfl,_,HLE.out,HL1.out,by omega,hb.trans (hBr.mono hsz)⟩
end Go.Proofs.YticmnfmijdgmbaaGreatDoor.S13
