/- A grammar's table, if one thing is done everywhere, is a machine that ends, and accepts what is derived. -/
import Derived.Test.YticmnfmijdgmbaaGreatDoorTf
import Derived.Test.YticmnfmijdgmbaaGreatDoorXg
import Derived.Test.YticmnfmijdgmbaaGreatDoorZk
set_option linter.unusedVariables false
set_option linter.unusedSimpArgs false
namespace Go.Proofs.YticmnfmijdgmbaaGreatDoor
open X14 (It iterB BuiltOk closeX rightX behX sortX symsX InC thereX stepX)
open S13 (u64 bitN top E0 F0 Sub hasN RowOk)
open S13.X15 (Pl LeastA askX places cxB cx_ok mem_C go_built)
namespace S16
section
variable {G:GD} {n:Nat} {A:Pl->Nat}
theorem sym_place {k:Nat} {s:Int} (h:(symsX G)[k]?=some s):placeX G s=some k:=by
 have hl:=(List.getElem?_eq_some_iff.1 h).1
 rw [X14.symsX_len] at hl
 unfold X14.symsX at h
 unfold placeX
 by_cases hk:k < G.terms.length
 ·rw [List.getElem?_append_left (by simpa using hk),List.getElem?_map,List.getElem?_range hk] at h
  obtain rfl:(k:Int)=s:=Option.some.inj h
  rw [if_pos (by omega),if_pos (by omega),Int.toNat_natCast]
 ·rw [List.getElem?_append_right (by simpa using hk),List.getElem?_map,List.getElem?_range (by simp; omega)] at h
  obtain rfl:-1 - ((k - ((List.range G.terms.length).map fun t:Nat=>(t:Int)).length:Nat):Int)=s:=Option.some.inj h
  rw [List.length_map,List.length_range]
  rw [if_neg (by omega),if_pos (by omega)]
  congr 1
  omega
theorem go_to (hO:BuiltOk G n) {i:Nat} {s:Int} (h:0<=goX G (iterB G n).nx (i:Int) s):i < n/\∃ q:Nat,goX G (iterB G n).nx (i:Int) s=(q:Int)/\0 < q/\q < n/\(iterB G n).ker[q]?=some (stepX G ((cxB G n (E0 G) (F0 G)).C i) s):=by
 obtain ⟨hI,ha,hl⟩:=hO.inv
 have hlen:(iterB G n).nx.length=n:=by rw [hI.len,ha]
 have hi:i < n:=by
  refine Classical.byContradiction fun hn=>?_
  rw [goX_off (by omega)] at h
  omega
 refine ⟨hi,?_⟩
 cases hp:placeX G s with
 | none=>rw [goX_none hp] at h; omega
 | some k =>
  have hs:=place_sym hp
  obtain ⟨R,v,h1,h2,_⟩:=hI.num i (by omega) k s hs
  have hg:=goX_at hp h1 h2
  rcases hI.to_ (by omega) hs h1 h2 with ⟨e,_⟩ | ⟨q,e1,e2,e3,e4⟩
  ·omega
  ·exact ⟨q,by rw [hg,e1],e2,by omega,e4⟩
theorem deeds_off (hO:BuiltOk G n) (hV:validB G=true) {i k:Nat} (hi:n<=i):dS G n A i k=[]:=by
 obtain ⟨hI,ha,hl⟩:=hO.inv
 have hlen:(iterB G n).nx.length=n:=by rw [hI.len,ha]
 have hC:(cxB G n (E0 G) (F0 G)).C i=[]:=by
  show closeX G ((iterB G n).ker.getD i [])=[]
  rw [gdQ,List.getElem?_eq_none (by omega)]
  exact X14.closeX_nil G
 unfold dS deedsS deedsX
 rw [hC]
 have h1:goOf G (iterB G n).nx (i:Int) k=[]:=by
  unfold goOf
  split
  ·rfl
  ·rw [goX_off (by omega),if_neg (by decide)]
 rw [h1]
 rfl
theorem c_cases (hO:BuiltOk G n) {D:Nat->Nat->List It} {i:Nat} {x:It} (hi:i < n) (h:InC G ((iterB G n).ker.getD i []) x):(x ∈ (iterB G n).ker.getD i []/\(1<=x.2\/x=(-1,0)))\/(x.2=0/\LR.Beg (mG G n D) i x.1):=by
 obtain ⟨hI,ha,hl⟩:=hO.inv
 have hker:∀ x ∈ (iterB G n).ker.getD i [],1<=x.2\/x=(-1,0):=fun x hx=>by
  rcases Nat.eq_zero_or_pos i with e | e
  ·subst e
   rw [X14.getD_get hI.first] at hx
   exact .inr (List.mem_singleton.1 hx)
  ·obtain ⟨j,k,R,a1,a2,a3,a4,a5⟩:=hI.come i e (by omega)
   obtain ⟨s,hs⟩:∃ s,(symsX G)[k]?=some s:=⟨_,geQ a5⟩
   rcases hI.to_ a1 hs a3 a4 with ⟨e1,_⟩ | ⟨q,e1,_,_,e4⟩
   ·omega
   ·obtain rfl:i=q:=by omega
    rw [X14.getD_get e4] at hx
    exact .inl (X14.step_dot hx).1
 induction h with
 | base x hx ht=>exact .inl ⟨hx,hker x hx⟩
 | more x s p hx hb hs hp he ih =>
  right
  refine ⟨rfl,?_⟩
  have hxC:x ∈ (cxB G n (E0 G) (F0 G)).C i:=mem_C.2 hx
  obtain ⟨d,hd⟩:=it_nat hxC
  have hp':(mG G n D).isP (p:Int):=⟨by omega,by omega⟩
  have hsr:s=(mG G n D).srt (p:Int):=by
   show s=-1 - sortX G ((p:Int)).toNat
   rw [Int.toNat_natCast,he]
   omega
  rw [hd] at hb
  have hs2:=(beh_get.1 hb).2
  rw [hsr] at hs2
  rcases ih with ⟨_,h1⟩ | ⟨h1,h2⟩
  ·refine .mk x.1 d (p:Int) ⟨hi,by rw [<-hd]; exact hxC⟩ ?_ hs2 hp'
   rcases h1 with h1 | h1
   ·left
    have:x.2=(d:Int):=by rw [hd]
    omega
   ·right; rw [h1]
  ·have hd0:d=0:=by
    have:x.2=(d:Int):=by rw [hd]
    omega
   subst hd0
   exact .more x.1 (p:Int) h2 hs2 hp'
theorem path_to (hO:BuiltOk G n) {D:Nat->Nat->List It} : ∀ i:Nat,i < n->∃ σ γ,LR.Path (mG G n D) (i :: σ) γ:=by
 obtain ⟨hI,ha,hl⟩:=hO.inv
 intro i
 induction i using Nat.strongRecOn with
 | _ i ih =>
  intro hi
  rcases Nat.eq_zero_or_pos i with e | e
  ·subst e; exact ⟨[],[],.base⟩
  ·obtain ⟨j,k,R,a1,a2,a3,a4,a5⟩:=hI.come i e (by omega)
   obtain ⟨s,hs⟩:∃ s,(symsX G)[k]?=some s:=⟨_,geQ a5⟩
   obtain ⟨σ,γ,hp⟩:=ih j a2 (by omega)
   have hg:goX G (iterB G n).nx (j:Int) s=(i:Int):=goX_at (sym_place hs) a3 a4
   have ht:(mG G n D).to j s=i:=by show (goX G (iterB G n).nx (j:Int) s).toNat=i; rw [hg]; rfl
   have:=LR.Path.more (M:=mG G n D) j σ γ s hp (by show 0<=goX G (iterB G n).nx (j:Int) s; rw [hg]; omega)
   rw [ht] at this
   exact ⟨_,_,this⟩
theorem machine_ok (hV:validB G=true) (hO:BuiltOk G n) (hL:LA G n A) (hno:∀ i k,i < n->k<=G.terms.length->(dS G n A i k).length<=1):LR.Ok (mG G n (dS G n A)):=by
 have hS:=symOk hV
 have h60:=(S13.valid_few hV).1
 have hcx:=cx_ok (n:=n) (E:=E0 G) hO hS (f0_low hV)
 have hback:∀ i s p d,0<=(mG G n (dS G n A)).go i s->(mG G n (dS G n A)).C ((mG G n (dS G n A)).to i s) p (d + 1)->((mG G n (dS G n A)).rt p)[d]?=some s/\(mG G n (dS G n A)).C i p d:=fun i s p d hg hc=>by
  obtain ⟨hi,q,e1,e2,e3,e4⟩:=go_to hO hg
  have ht:(mG G n (dS G n A)).to i s=q:=by show (goX G (iterB G n).nx (i:Int) s).toNat=q; rw [e1]; rfl
  rw [ht] at hc
  rcases c_cases (D:=dS G n A) hO e3 (mem_C.1 hc.2) with ⟨h1,_⟩ | ⟨h1,_⟩
  ·rw [X14.getD_get e4] at h1
   obtain ⟨x,hx,hb,he⟩:=X14.mem_step.1 h1
   injection he with he1 he2
   have hxx:x=(p,(d:Int)):=Prod.ext he1.symm (by show x.2=(d:Int); have:((d + 1:Nat):Int)=x.2 + 1:=he2; omega)
   subst hxx
   exact ⟨(beh_get.1 hb).2,hi,hx⟩
  ·have h1:((d + 1:Nat):Int)=0:=h1
   omega
 have hlkc:∀ i p d t,LR.Lk (mG G n (dS G n A)) i p d t->(mG G n (dS G n A)).C i p d:=fun i p d t h=>by
  induction h with
  | start=>exact ⟨S13.X15.n_pos hO,S13.X15.first_in hO⟩
  | goto i p d s t _ hc hs _ =>
   obtain ⟨h1,h2⟩:=hcx.goto_ i _ s hc.1 hc.2 (c_beh hc hs)
   exact ⟨h1,h2⟩
  | first i p d q t hc hs hq _ =>
   obtain ⟨r,hr,hq'⟩:=isp_prod hq
   have hneg:(mG G n (dS G n A)).srt q < 0:=by rw [<-hq',srt_at hr]; have:=(row_of hV hr).1; omega
   have:=hcx.more i _ _ q.toNat hc.1 hc.2 (c_beh hc hs) hneg (List.getElem?_eq_some_iff.1 hr).1 (by show sortX G q.toNat=-1 - (-1 - sortX G q.toNat); omega)
   rw [hq'] at this
   exact ⟨hc.1,this⟩
  | nul i p d q t _ hc hs hq _ _ =>
   obtain ⟨r,hr,hq'⟩:=isp_prod hq
   have hneg:(mG G n (dS G n A)).srt q < 0:=by rw [<-hq',srt_at hr]; have:=(row_of hV hr).1; omega
   have:=hcx.more i _ _ q.toNat hc.1 hc.2 (c_beh hc hs) hneg (List.getElem?_eq_some_iff.1 hr).1 (by show sortX G q.toNat=-1 - (-1 - sortX G q.toNat); omega)
   rw [hq'] at this
   exact ⟨hc.1,this⟩
 have hcol:∀ t:Int,(t=63\/0<=t/\t < (G.terms.length:Int))->colX G.terms.length t<=G.terms.length/\(if colX G.terms.length t=G.terms.length then 63 else colX G.terms.length t)=t.toNat:=fun t ht=>by
  unfold colX
  by_cases h:t=63
  ·rw [if_pos h]
   exact ⟨Nat.le_refl _,by rw [if_pos rfl,h]; rfl⟩
  ·rw [if_neg h]
   have:=ht.resolve_left h
   exact ⟨by omega,by rw [if_neg (by omega)]⟩
 have hred:∀ i p t,LR.Lk (mG G n (dS G n A)) i p (rightX G p).length t->(if p < 0 then ((3:Int),(0:Int)) else (2,p)) ∈ dS G n A i (colX G.terms.length t)/\i < n/\(t=63\/0<=t/\t < (G.terms.length:Int)):=fun i p t h=>by
  obtain ⟨h1,h2⟩:=of_lk hV hO hL h
  have hc:=hlkc _ _ _ _ h
  obtain ⟨h3,h4⟩:=hcol t h2
  refine ⟨(mem_deeds (D:=dS G n A) hV hO hc.1 h3).2 (.inr ⟨p,hc,?_,rfl⟩),hc.1,h2⟩
  rw [h4]
  exact h1
 exact {
   neg:=fun q hq=>by
     obtain ⟨r,hr,hq'⟩:=isp_prod hq
     exact ⟨by rw [<-hq',srt_at hr]; have:=(row_of hV hr).1; omega,hq.1⟩
   start:=⟨S13.X15.n_pos hO,S13.X15.first_in hO⟩
   rt1:=rfl
   goto_:=fun i p d s hc hs=>by
     obtain ⟨q,e1,_⟩:=go_built (E:=E0 G) (F:=F0 G) hO hS hc.1 hc.2 (c_beh hc hs)
     obtain ⟨h1,h2⟩:=hcx.goto_ i _ s hc.1 hc.2 (c_beh hc hs)
     exact ⟨by show 0<=goX G (iterB G n).nx (i:Int) s; rw [e1]; omega,h1,h2⟩
   more:=fun i p d q hc hs hq=>by
     obtain ⟨r,hr,hq'⟩:=isp_prod hq
     have hneg:(mG G n (dS G n A)).srt q < 0:=by rw [<-hq',srt_at hr]; have:=(row_of hV hr).1; omega
     have:=hcx.more i _ _ q.toNat hc.1 hc.2 (c_beh hc hs) hneg (List.getElem?_eq_some_iff.1 hr).1 (by show sortX G q.toNat=-1 - (-1 - sortX G q.toNat); omega)
     rw [hq'] at this
     exact ⟨hc.1,this⟩
   back:=hback
   want:=fun i p hc hp=>by
     rcases c_cases (D:=dS G n A) hO hc.1 (mem_C.1 hc.2) with ⟨_,h1⟩ | ⟨_,h1⟩
     . exfalso
       rcases h1 with h1 | h1
       . have h1:(1:Int)<=((0:Nat):Int):=h1
         omega
       injection h1 with h1 _
       have:=hp.1
       omega
     have hgo:∀ q d s,(mG G n (dS G n A)).C i q d->((mG G n (dS G n A)).rt q)[d]?=some s->0<=(mG G n (dS G n A)).go i s:=fun q d s hc hs=>by
       obtain ⟨r,e1,_⟩:=go_built (E:=E0 G) (F:=F0 G) hO hS hc.1 hc.2 (c_beh hc hs)
       show 0<=goX G (iterB G n).nx (i:Int) s
       rw [e1]
       omega
     have hbeg:∀ q,LR.Beg (mG G n (dS G n A)) i q->(mG G n (dS G n A)).C i q 0:=fun q hq=>by
       have hmr:∀ p d q,(mG G n (dS G n A)).C i p d->((mG G n (dS G n A)).rt p)[d]?=some ((mG G n (dS G n A)).srt q)->(mG G n (dS G n A)).isP q->(mG G n (dS G n A)).C i q 0:=fun p d q hc hs hq=>by
         obtain ⟨r,hr,hq'⟩:=isp_prod hq
         have hneg:(mG G n (dS G n A)).srt q < 0:=by rw [<-hq',srt_at hr]; have:=(row_of hV hr).1; omega
         have:=hcx.more i _ _ q.toNat hc.1 hc.2 (c_beh hc hs) hneg (List.getElem?_eq_some_iff.1 hr).1 (by show sortX G q.toNat=-1 - (-1 - sortX G q.toNat); omega)
         rw [hq'] at this
         exact ⟨hc.1,this⟩
       induction hq with
       | mk p d q hc _ hs hq=>exact hmr p d q hc hs hq
       | more p q _ hs hq ih=>exact hmr p 0 q ih hs hq
     cases h1 with
     | mk q d _ hc _ hs _=>exact hgo q d _ hc hs
     | more q _ hq hs _=>exact hgo q 0 _ (hbeg q hq) hs
   fin:=⟨G.sorts.length,fun q hq=>by
     obtain ⟨r,hr,hq'⟩:=isp_prod hq
     rw [<-hq',srt_at hr]
     have:=(row_of hV hr).2.1
     omega⟩
   whole:=fun i hc=>S13.X15.whole_first hO hc.1 hc.2
   begun:=fun i q hc hq=>by
     rcases c_cases (D:=dS G n A) hO hc.1 (mem_C.1 hc.2) with ⟨_,h1⟩ | ⟨_,h1⟩
     . exfalso
       rcases h1 with h1 | h1
       . have h1:(1:Int)<=((0:Nat):Int):=h1
         omega
       injection h1 with h1 _
       have:=hq.1
       omega
     exact h1
   zero:=fun p d hc=>by
     rcases c_cases (D:=dS G n A) hO hc.1 (mem_C.1 hc.2) with ⟨h1,_⟩ | ⟨h1,_⟩
     . rw [X14.getD_get hO.inv.1.first] at h1
       have h1:=List.mem_singleton.1 h1
       injection h1 with _ h1
       omega
     have h1:((d:Nat):Int)=0:=h1
     omega
   pos:=fun i s hg=>by
     obtain ⟨hi,q,e1,e2,e3,e4⟩:=go_to hO hg
     show (goX G (iterB G n).nx (i:Int) s).toNat ≠ 0
     rw [e1]
     omega
   reach:=fun i p d hc=>path_to hO i hc.1
   isp:=fun i p d hc=>by
     have:=c_there hc
     by_cases h:p=-1
     . exact .inl h
     exact .inr ⟨by omega,this.2.1⟩
   a_shift:=fun i t p d hc hs h0=>by
     obtain ⟨q,e1,_⟩:=go_built (E:=E0 G) (F:=F0 G) hO hS hc.1 hc.2 (c_beh hc hs)
     have hro:=rt_ok hV p (c_there hc).1 (c_there hc).2.1 t (List.mem_of_getElem? hs)
     have ht:0<=t/\t < (G.terms.length:Int):=by omega
     obtain ⟨h3,h4⟩:=hcol t (.inr ht)
     have hcc:colX G.terms.length t=t.toNat:=by unfold colX; rw [if_neg (by omega)]
     have hm:((1:Int),goX G (iterB G n).nx (i:Int) t) ∈ dS G n A i (colX G.terms.length t):=by
       refine (mem_deeds (D:=dS G n A) hV hO hc.1 h3).2 (.inl ⟨by omega,?_,?_⟩)
       . rw [hcc,show ((t.toNat:Nat):Int)=t by omega,e1]; omega
       rw [hcc,show ((t.toNat:Nat):Int)=t by omega]
     have:=act_one (D:=dS G n A) (.inr ht) (hno i _ hc.1 h3) hm
     exact this
   a_red:=fun i p t h hp=>by
     obtain ⟨h1,hi,h2⟩:=hred i p t h
     obtain ⟨h3,_⟩:=hcol t h2
     have e:(if p < 0 then ((3:Int),(0:Int)) else (2,p))=(2,p):=if_neg (by have:=hp.1; omega)
     rw [e] at h1
     exact act_one (D:=dS G n A) h2 (hno i _ hi h3) h1
   a_acc:=fun i t h=>by
     obtain ⟨h1,hi,h2⟩:=hred i (-1) t h
     obtain ⟨h3,_⟩:=hcol t h2
     have:=act_one (D:=dS G n A) h2 (hno i _ hi h3) h1
     exact this
   r_shift:=fun i t j h=>by
     obtain ⟨ht,x,hx,e⟩:=act_some (D:=dS G n A) h (by simp)
     obtain ⟨h3,h4⟩:=hcol t ht
     have hi:i < n:=by
       refine Classical.byContradiction fun hn=>?_
       rw [deeds_off hO hV (by omega)] at hx
       cases hx
     rcases (mem_deeds (D:=dS G n A) hV hO hi h3).1 hx with ⟨h5,h6,rfl⟩ | ⟨p,_,_,rfl⟩
     . have ht:0<=t/\t < (G.terms.length:Int):=ht.resolve_left fun e=>by subst e; unfold colX at h5; rw [if_pos rfl] at h5; omega
       have hcc:colX G.terms.length t=t.toNat:=by unfold colX; rw [if_neg (by omega)]
       rw [hcc,show ((t.toNat:Nat):Int)=t by omega] at h6 e
       injection e with e
       exact ⟨ht.1,by omega,h6,e⟩
     split at e <;> simp at e
   r_red:=fun i t p h=>by
     obtain ⟨ht,x,hx,e⟩:=act_some (D:=dS G n A) h (by simp)
     obtain ⟨h3,h4⟩:=hcol t ht
     have hi:i < n:=by
       refine Classical.byContradiction fun hn=>?_
       rw [deeds_off hO hV (by omega)] at hx
       cases hx
     rcases (mem_deeds (D:=dS G n A) hV hO hi h3).1 hx with ⟨h5,h6,rfl⟩ | ⟨q,h5,h6,rfl⟩
     . simp at e
     by_cases hq:q < 0
     . rw [if_pos hq] at e; simp at e
     rw [if_neg hq] at e
     have e:LR.Do.red p=LR.Do.red q:=e
     injection e with e
     subst e
     rw [h4] at h6
     have h7:=lk_of hV hO hL h5 h6
     have ht0:0<=t:=by omega
     rw [show ((t.toNat:Nat):Int)=t by omega] at h7
     exact ⟨⟨by omega,(c_there h5).2.1⟩,h7⟩
   r_acc:=fun i t h=>by
     obtain ⟨ht,x,hx,e⟩:=act_some (D:=dS G n A) h (by simp)
     obtain ⟨h3,h4⟩:=hcol t ht
     have hi:i < n:=by
       refine Classical.byContradiction fun hn=>?_
       rw [deeds_off hO hV (by omega)] at hx
       cases hx
     rcases (mem_deeds (D:=dS G n A) hV hO hi h3).1 hx with ⟨h5,h6,rfl⟩ | ⟨q,h5,h6,rfl⟩
     . simp at e
     by_cases hq:q < 0
     . have hq1:q=-1:=by have:=(c_there h5).1; omega
       subst hq1
       have ht0:0<=t:=by omega
       rw [h4] at h6
       have hA:=S13.X15.whole_ahead hO hS (f0_low hV) hL hi h5.2 rfl
       have h6:(A (i,((-1:Int),((1:Nat):Int)))).testBit t.toNat=true:=h6
       have h8:A (i,((-1:Int),((1:Nat):Int)))=bitN 63:=hA
       rw [h8,S13.testBit_bitN] at h6
       have h9:=of_decide_eq_true h6
       have ht63:t=63:=by omega
       refine ⟨ht63,?_⟩
       rw [ht63]
       exact lk_of hV hO hL (p:=-1) (d:=1) (t:=63) h5 (by rw [h8]; decide)
     rw [if_neg hq] at e; simp at e }
theorem path_item (hO:BuiltOk G n) {D:Nat->Nat->List It} {i:Nat} {σ:List Nat} {γ:List Int} (h:LR.Path (mG G n D) (i :: σ) γ):∃ p d,(mG G n D).C i p d/\(0 < d\/p=-1):=by
 obtain ⟨hI,ha,hl⟩:=hO.inv
 have hi:i < n:=by
  cases h with
  | base=>exact S13.X15.n_pos hO
  | more j σ γ s _ hg =>
   obtain ⟨_,q,e1,_,e3,_⟩:=go_to hO hg
   show (goX G (iterB G n).nx (j:Int) s).toNat < n
   rw [e1]
   exact e3
 cases h with
 | base=>exact ⟨-1,0,⟨hi,S13.X15.first_in hO⟩,.inr rfl⟩
 | more j σ γ s _ hg =>
  obtain ⟨_,q,e1,_,e3,e4⟩:=go_to hO hg
  have ht:(mG G n D).to j s=q:=by show (goX G (iterB G n).nx (j:Int) s).toNat=q; rw [e1]; rfl
  have hne:=hI.kers.some_ _ (List.mem_of_getElem? e4)
  obtain ⟨x,hx⟩:=List.exists_mem_of_ne_nil _ hne
  have hxC:x ∈ (cxB G n (E0 G) (F0 G)).C q:=mem_C.2 (.base x (by rw [X14.getD_get e4]; exact hx) (by
   obtain ⟨y,_,hb,rfl⟩:=X14.mem_step.1 hx
   exact S13.X15.next_there hb))
  obtain ⟨d,hd⟩:=it_nat hxC
  refine ⟨x.1,d,⟨by rw [ht]; exact e3,by rw [ht,<-hd]; exact hxC⟩,.inl ?_⟩
  have:=(X14.step_dot hx).1
  have h2:x.2=(d:Int):=by rw [hd]
  omega
end
end S16
end Go.Proofs.YticmnfmijdgmbaaGreatDoor

namespace Go.Proofs.YticmnfmijdgmbaaGreatDoor
open X14 (It iterB BuiltOk closeX rightX behX sortX)
open S13 (top E0 F0)
open S13.X15 (Pl LeastA askX places cxB)
namespace LR
inductive RunsN (M:Mach) (inT:Int->Prop):Nat->List Nat->List Int->Bool->List Int->Prop
 | bad (σ:List Nat) (t:Int) (w:List Int) (h:¬ inT t):RunsN M inT 0 σ (t :: w) false (t :: w)
 | acc (i:Nat) (σ:List Nat) (w:List Int) (hi:∀ t ∈ w.head?,inT t) (h:M.act i (hd w)=.acc):RunsN M inT 0 (i :: σ) w true w
 | wrong (i:Nat) (σ:List Nat) (w:List Int) (hi:∀ t ∈ w.head?,inT t) (h:M.act i (hd w)=.wrong):RunsN M inT 0 (i :: σ) w false w
 | shift (k i j:Nat) (σ:List Nat) (t:Int) (w:List Int) (b:Bool) (r:List Int) (hi:inT t) (h:M.act i t=.shift j) (hr:RunsN M inT k (j :: i :: σ) w b r):RunsN M inT (k + 1) (i :: σ) (t :: w) b r
 | red (k:Nat) (σ τ:List Nat) (w:List Int) (b:Bool) (r:List Int) (hi:∀ t ∈ w.head?,inT t) (h:LR.red M (hd w) σ=some τ) (hr:RunsN M inT k τ w b r):RunsN M inT (k + 1) σ w b r
variable {M:Mach} {inT:Int->Prop}
theorem Runs.count {σ:List Nat} {w:List Int} {b:Bool} {r:List Int} (h:Runs M inT σ w b r):∃ k,RunsN M inT k σ w b r:=by
 induction h with
 | bad σ t w h=>exact ⟨0,.bad σ t w h⟩
 | acc i σ w hi h=>exact ⟨0,.acc i σ w hi h⟩
 | wrong i σ w hi h=>exact ⟨0,.wrong i σ w hi h⟩
 | shift i j σ t w b r hi h _ ih=>obtain ⟨k,hk⟩:=ih; exact ⟨k + 1,.shift k i j σ t w b r hi h hk⟩
 | red σ τ w b r hi h _ ih=>obtain ⟨k,hk⟩:=ih; exact ⟨k + 1,.red k σ τ w b r hi h hk⟩
theorem RunsN.at_bad {k:Nat} {σ:List Nat} {t:Int} {w:List Int} {b:Bool} {r:List Int} (h:RunsN M inT k σ (t :: w) b r) (ht:¬ inT t):b=false/\r=t :: w:=by
 cases h with
 | bad=>exact ⟨rfl,rfl⟩
 | acc i σ _ hi=>exact absurd (hi t rfl) ht
 | wrong i σ _ hi=>exact absurd (hi t rfl) ht
 | shift k i j σ t w b r hi=>exact absurd hi ht
 | red k σ τ w b r hi=>exact absurd (hi t rfl) ht
theorem RunsN.at_acc {k i:Nat} {σ:List Nat} {w:List Int} {b:Bool} {r:List Int} (h:RunsN M inT k (i :: σ) w b r) (hi:∀ t ∈ w.head?,inT t) (ha:M.act i (hd w)=.acc):b=true/\r=w:=by
 cases h with
 | bad _ t w h'=>exact absurd (hi t rfl) h'
 | acc=>exact ⟨rfl,rfl⟩
 | wrong _ _ _ _ h'=>rw [ha] at h'; cases h'
 | shift _ _ j _ t w b r _ h'=>rw [show hd (t :: w)=t from rfl] at ha; rw [ha] at h'; cases h'
 | red _ _ τ w b r _ h'=>obtain ⟨p,e⟩:=red_act h'; rw [ha] at e; cases e
theorem RunsN.at_wrong {k i:Nat} {σ:List Nat} {w:List Int} {b:Bool} {r:List Int} (h:RunsN M inT k (i :: σ) w b r) (hi:∀ t ∈ w.head?,inT t) (ha:M.act i (hd w)=.wrong):b=false/\r=w:=by
 cases h with
 | bad _ t w h'=>exact absurd (hi t rfl) h'
 | acc _ _ _ _ h'=>rw [ha] at h'; cases h'
 | wrong=>exact ⟨rfl,rfl⟩
 | shift _ _ j _ t w b r _ h'=>rw [show hd (t :: w)=t from rfl] at ha; rw [ha] at h'; cases h'
 | red _ _ τ w b r _ h'=>obtain ⟨p,e⟩:=red_act h'; rw [ha] at e; cases e
theorem RunsN.at_shift {k i j:Nat} {σ:List Nat} {t:Int} {w:List Int} {b:Bool} {r:List Int} (h:RunsN M inT k (i :: σ) (t :: w) b r) (hi:inT t) (ha:M.act i t=.shift j):∃ k',k=k' + 1/\RunsN M inT k' (j :: i :: σ) w b r:=by
 cases h with
 | bad _ t w h'=>exact absurd hi h'
 | acc _ _ _ _ h'=>rw [show hd (t :: w)=t from rfl,ha] at h'; cases h'
 | wrong _ _ _ _ h'=>rw [show hd (t :: w)=t from rfl,ha] at h'; cases h'
 | shift k' _ j' _ _ _ _ _ _ h' hr=>rw [ha] at h'; cases h'; exact ⟨k',rfl,hr⟩
 | red _ _ τ w b r _ h'=>obtain ⟨p,e⟩:=red_act h'; rw [show hd (t :: w)=t from rfl,ha] at e; cases e
theorem RunsN.at_red {k i:Nat} {p:Int} {σ:List Nat} {w:List Int} {b:Bool} {r:List Int} (h:RunsN M inT k (i :: σ) w b r) (hi:∀ t ∈ w.head?,inT t) (ha:M.act i (hd w)=.red p):∃ k' τ,k=k' + 1/\LR.red M (hd w) (i :: σ)=some τ/\RunsN M inT k' τ w b r:=by
 cases h with
 | bad _ t w h'=>exact absurd (hi t rfl) h'
 | acc _ _ _ _ h'=>rw [ha] at h'; cases h'
 | wrong _ _ _ _ h'=>rw [ha] at h'; cases h'
 | shift _ _ j _ t w b r _ h'=>rw [show hd (t :: w)=t from rfl] at ha; rw [ha] at h'; cases h'
 | red k' _ τ w b r _ h' hr=>exact ⟨k',τ,rfl,h',hr⟩
theorem red_app {t:Int} {τ τ':List Nat} (h:LR.red M t τ=some τ') (ρ:List Nat):LR.red M t (τ ++ ρ)=some (τ' ++ ρ):=by
 cases τ with
 | nil=>cases h
 | cons i τ =>
  obtain ⟨p,ha⟩:=red_act h
  rw [List.cons_append]
  cases hd:(i :: τ).drop (M.rt p).length with
  | nil=>simp only [LR.red,ha,hd] at h; cases h
  | cons j υ =>
   simp only [LR.red,ha,hd] at h
   have h:=Option.some.inj h
   subst h
   have hlen:(M.rt p).length<=(i :: τ).length:=by
    refine Classical.byContradiction fun hn=>?_
    rw [List.drop_eq_nil_of_le (by omega)] at hd
    cases hd
   have e:(i :: (τ ++ ρ)).drop (M.rt p).length=j :: (υ ++ ρ):=by
    rw [<-List.cons_append,List.drop_append_of_le_length hlen,hd]
    rfl
   simp only [LR.red,ha,e]
   rfl
theorem steps_app {t:Int} {a b:List Nat} (h:Steps M t a b) (ρ:List Nat):Steps M t (a ++ ρ) (b ++ ρ):=by
 induction h with
 | refl=>exact .refl _
 | step σ τ υ h _ ih=>exact .step _ _ _ (red_app h ρ) ih
theorem no_again {t:Int} {u:Nat} {κ:List Nat} (h:Steps1 M t [u] (u :: κ ++ [u])) {ς:List Nat} (hf:Fin M t ς):∀ ρ,Steps M t ς (u :: ρ)->False:=by
 have up:∀ ρ,∃ c,LR.red M t (u :: ρ)=some c/\Steps M t c (u :: (κ ++ [u] ++ ρ)):=fun ρ=>by
  obtain ⟨c,h1,h2⟩:=h
  exact ⟨c ++ ρ,red_app h1 ρ,by have:=steps_app h2 ρ; simpa using this⟩
 induction hf with
 | stop ς hs =>
  intro ρ hst
  cases hst with
  | refl=>obtain ⟨c,h1,_⟩:=up ρ; rw [hs] at h1; cases h1
  | step _ _ _ h1 _=>rw [hs] at h1; cases h1
 | go ς τ hs _ ih =>
  intro ρ hst
  cases hst with
  | refl =>
   obtain ⟨c,h1,h2⟩:=up ρ
   rw [hs] at h1
   cases h1
   exact ih _ h2
  | step _ _ _ h1 h2 =>
   rw [hs] at h1
   cases h1
   exact ih _ h2
def Tower (M:Mach) (t:Int) (τ:List Nat):Prop:=∀ α x β y γ,τ=α ++ x :: (β ++ y :: γ)->Steps1 M t [y] (x :: β ++ [y])
theorem Tower.one (t:Int) (x:Nat):Tower M t [x]:=fun α a β y γ e=>by
 have:=congrArg List.length e
 simp at this
 omega
theorem Tower.red {t:Int} {τ ρ σ':List Nat} {γ:List Int} (hM:Ok M) (h:Tower M t τ) (hp:Path M (τ ++ ρ) γ) (h0:τ ≠ []) (hr:LR.red M t (τ ++ ρ)=some σ'):∃ τ' ρ',σ'=τ' ++ ρ'/\τ' ≠ []/\Tower M t τ'/\ρ'.length<=ρ.length:=by
 obtain ⟨p,i,j,υ,k1,k2,k3,k4,k5,k6,k7,k8,k9,k10⟩:=path_red hM hp hr
 by_cases hlt:(M.rt p).length < τ.length
 ·rw [List.drop_append_of_le_length (by omega)] at k7
  obtain ⟨υ1,hd⟩:∃ υ1,τ.drop (M.rt p).length=j :: υ1:=by
   cases hd:τ.drop (M.rt p).length with
   | nil=>have:=congrArg List.length hd; rw [List.length_drop] at this; simp at this; omega
   | cons a b=>rw [hd] at k7; injection k7 with e _; exact ⟨b,by rw [e]⟩
  rw [hd] at k7
  injection k7 with _ k7
  refine ⟨M.to j (M.srt p) :: j :: υ1,ρ,by rw [k10,<-k7]; rfl,by simp,fun α x β y γ' e=>?_,Nat.le_refl _⟩
  have hτ:τ=τ.take (M.rt p).length ++ j :: υ1:=by rw [<-hd,List.take_append_drop]
  cases α with
  | cons a α =>
   injection e with _ e
   exact h (τ.take (M.rt p).length ++ α) x β y γ' (by have e:j :: υ1=α ++ x :: (β ++ y :: γ'):=e; rw [List.append_assoc,<-e]; exact hτ)
  | nil =>
   injection e with e1 e2
   obtain ⟨hi,τ0,hτ0⟩:∃ hi τ0,τ=hi :: τ0:=by
    cases τ with
    | nil=>exact absurd rfl h0
    | cons a b=>exact ⟨a,b,rfl⟩
   have hii:hi=i:=by rw [hτ0] at k1; exact Option.some.inj k1
   subst hii
   -- down to y
   have hrd:∀ θ:List Nat,θ=τ.take (M.rt p).length ++ (β ++ [y])->LR.red M t θ=some (x :: β ++ [y]):=fun θ hθ=>by
    have hdr:θ.drop (M.rt p).length=β ++ [y]:=by
     rw [hθ,List.drop_left' (by rw [List.length_take,Nat.min_eq_left (by omega)])]
    have hhd:∃ r,θ=hi :: r:=by
     cases hk:(M.rt p).length with
     | zero =>
      rw [hk,List.take_zero,List.nil_append] at hθ
      rw [hk,List.take_zero,List.nil_append,e2] at hτ
      cases β with
      | nil=>rw [hτ0] at hτ; injection hτ with e _; exact ⟨[],by rw [hθ,e]; rfl⟩
      | cons b β=>rw [hτ0] at hτ; injection hτ with e _; exact ⟨β ++ [y],by rw [hθ,e]; rfl⟩
     | succ k =>
      rw [hk,hτ0,List.take_succ_cons,List.cons_append] at hθ
      exact ⟨_,hθ⟩
    obtain ⟨r,hr0⟩:=hhd
    obtain ⟨b,β',hb⟩:∃ b β',β ++ [y]=b :: β':=by
     cases β with
     | nil=>exact ⟨y,[],rfl⟩
     | cons b β=>exact ⟨b,β ++ [y],rfl⟩
    have hbj:b=j:=by
     cases β with
     | nil=>injection hb with hb _; injection e2 with e2 _; rw [<-hb,e2]
     | cons c β=>injection hb with hb _; injection e2 with e2 _; rw [<-hb,e2]
    rw [hr0,hb] at hdr
    rw [hr0]
    simp only [LR.red,k2,hdr]
    rw [List.cons_append,hb,hbj,e1]
   have hst:Steps M t [y] (τ.take (M.rt p).length ++ (β ++ [y])):=by
    cases hc:τ.take (M.rt p).length ++ β with
    | nil =>
     obtain ⟨h1,h2⟩:=List.append_eq_nil_iff.1 hc
     rw [h1,h2]
     exact .refl _
    | cons a c =>
     obtain ⟨d,h1,h2⟩:=h [] a c y γ' (by rw [List.nil_append,hτ,e2,<-List.append_assoc,hc]; rfl)
     rw [<-List.append_assoc,hc]
     exact .step _ _ _ h1 h2
   exact hst.then_ (hrd _ rfl)
 ·refine ⟨[M.to j (M.srt p)],j :: υ,by rw [k10]; rfl,by simp,Tower.one _ _,?_⟩
  rw [<-k7,List.length_drop,List.length_append]
  omega
theorem Tower.nodup {t:Int} (hM:Ok M):∀ {τ ρ:List Nat} {γ:List Int},Tower M t τ->Path M (τ ++ ρ) γ->τ.Nodup
 | [],_,_,_,_=>List.nodup_nil
 | x :: τ,ρ,γ,h,hp=>by
  have hp2:τ=[]\/∃ γ',Path M (τ ++ ρ) γ':=by
   cases τ with
   | nil=>exact .inl rfl
   | cons y τ =>
    right
    generalize hz:x :: (y :: τ) ++ ρ=s at hp
    cases hp with
    | base=>simp at hz
    | more i σ γ s h' hg =>
     injection hz with e1 e2
     have e2:y :: τ ++ ρ=i :: σ:=e2
     exact ⟨γ,by rw [e2]; exact h'⟩
  have hnd:τ.Nodup:=by
   rcases hp2 with rfl | ⟨γ',hp2⟩
   ·exact List.nodup_nil
   ·exact Tower.nodup hM (fun α a β y γ e=>h (x :: α) a β y γ (by rw [e]; rfl)) hp2
  refine List.nodup_cons.2 ⟨fun hx=>?_,hnd⟩
  obtain ⟨β,δ,rfl⟩:=List.append_of_mem hx
  have h1:=h [] x β x δ rfl
  exact no_again h1 (fin_all hM hp) _ (.refl _)
theorem nodup_nat:∀ (N:Nat) (V:List Nat),V.Nodup->(∀ v ∈ V,v < N)->V.length<=N
 | 0,V,_,h=>by
  cases V with
  | nil=>exact Nat.le_refl _
  | cons v V=>have:=h v List.mem_cons_self; omega
 | N + 1,V,hd,h=>by
  by_cases hm:N ∈ V
  ·have h1:=nodup_nat N (V.erase N) (hd.erase _) (fun v hv=>by
    have h2:=(hd.mem_erase_iff.1 hv)
    have h3:=h v h2.2
    have h4:=h2.1
    omega)
   rw [List.length_erase_of_mem hm] at h1
   omega
  ·have h1:=nodup_nat N V hd (fun v hv=>by
    have h3:=h v hv
    have h4:v ≠ N:=fun e=>hm (e ▸ hv)
    omega)
   omega
end LR
namespace S16
section
variable {G:GD} {n:Nat} {A:Pl->Nat}
theorem clRow_none {cnt:Nat->Nat->Nat} {i:Nat} : ∀ {m:Nat},clRow cnt i m=[]->∀ k,k < m->cnt i k<=1
 | 0,_,k,hk=>absurd hk (Nat.not_lt_zero k)
 | m + 1,h,k,hk=>by
  unfold clRow at h
  obtain ⟨h1,h2⟩:=List.append_eq_nil_iff.1 h
  by_cases e:k=m
  ·subst e
   refine Classical.byContradiction fun hn=>?_
   rw [if_pos (by omega)] at h2
   cases h2
  ·exact clRow_none h1 k (by omega)
theorem clX_none {cnt:Nat->Nat->Nat} {m:Nat} : ∀ {n:Nat},clX cnt m n=[]->∀ i k,i < n->k < m->cnt i k<=1
 | 0,_,i,_,hi,_=>absurd hi (Nat.not_lt_zero i)
 | n + 1,h,i,k,hi,hk=>by
  unfold clX at h
  obtain ⟨h1,h2⟩:=List.append_eq_nil_iff.1 h
  by_cases e:i=n
  ·subst e; exact clRow_none h2 k hk
  ·exact clX_none h1 i k (by omega) hk
theorem deed_cases (hV:validB G=true) (hO:BuiltOk G n) (hL:LA G n A) {i:Nat} {t:Int} (hi:i < n) (ht:t=63\/0<=t/\t < (G.terms.length:Int)) {x:It} (hx:(dS G n A i (colX G.terms.length t)).headD (0,0)=x) :
  (x=(0,0)/\(mG G n (dS G n A)).act i t=.wrong)\/(∃ q:Nat,x=(1,(q:Int))/\q < n/\0<=t/\t < (G.terms.length:Int)/\0<=(mG G n (dS G n A)).go i t/\q=(mG G n (dS G n A)).to i t/\(mG G n (dS G n A)).act i t=.shift q) \/
  (∃ p:Nat,x=(2,(p:Int))/\p < G.prods.length/\(mG G n (dS G n A)).act i t=.red (p:Int))\/(x=(3,0)/\(mG G n (dS G n A)).act i t=.acc):=by
 have hk:colX G.terms.length t<=G.terms.length:=by unfold colX; split <;> omega
 have hact:(mG G n (dS G n A)).act i t=(match (dS G n A i (colX G.terms.length t)).head? with
  | none=>.wrong
  | some x=>if x.1=1 then .shift x.2.toNat else if x.1=2 then .red x.2 else .acc):=by
  show actX (dS G n A) G.terms.length i t=_
  unfold actX
  rw [if_pos ht]
  rfl
 cases hd:dS G n A i (colX G.terms.length t) with
 | nil =>
  rw [hd] at hx hact
  left
  exact ⟨hx.symm,hact⟩
 | cons y l =>
  rw [hd] at hx hact
  have hxy:y=x:=hx
  subst hxy
  have hm:y ∈ dS G n A i (colX G.terms.length t):=by rw [hd]; exact List.mem_cons_self
  rcases (mem_deeds (D:=dS G n A) hV hO hi hk).1 hm with ⟨h5,h6,rfl⟩ | ⟨p,h5,h6,rfl⟩
  ·right; left
   have ht:0<=t/\t < (G.terms.length:Int):=ht.resolve_left fun e=>by subst e; unfold colX at h5; rw [if_pos rfl] at h5; omega
   have hcc:colX G.terms.length t=t.toNat:=by unfold colX; rw [if_neg]; have:=(S13.valid_few hV).1; omega
   rw [hcc,show ((t.toNat:Nat):Int)=t by omega] at h6 hact ⊢
   obtain ⟨_,q,e1,e2,e3,_⟩:=go_to hO h6
   refine ⟨q,by rw [e1],e3,ht.1,ht.2,h6,?_,?_⟩
   ·show q=(goX G (iterB G n).nx (i:Int) t).toNat
    rw [e1]; rfl
   ·rw [hact,e1]; rfl
  ·right; right
   by_cases hp:p < 0
   ·rw [if_pos hp] at hact ⊢
    exact .inr ⟨rfl,hact⟩
   ·rw [if_neg hp] at hact ⊢
    have:=c_there h5
    refine .inl ⟨p.toNat,?_,by omega,?_⟩
    ·rw [show ((p.toNat:Nat):Int)=p by omega]
    ·rw [hact,show ((p.toNat:Nat):Int)=p by omega]; rfl
end
end S16
end Go.Proofs.YticmnfmijdgmbaaGreatDoor
