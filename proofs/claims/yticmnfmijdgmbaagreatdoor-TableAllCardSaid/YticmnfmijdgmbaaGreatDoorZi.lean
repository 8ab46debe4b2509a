import Derived.Test.YticmnfmijdgmbaaGreatDoorSm
set_option linter.all false
namespace Go.Proofs.YticmnfmijdgmbaaGreatDoor
namespace LR
inductive Do where
 | wrong
 | shift (j:Nat)
 | red (p:Int)
 | acc
structure lK where
 rt:Int->List Int
 srt:Int->Int
 isP:Int->Prop
 C:Nat->Int->Nat->Prop
 go:Nat->Int->Int
 act:Nat->Int->Do
def lK.to (M:lK)(i:Nat)(s:Int):Nat:=(M.go i s).toNat
inductive En (M:lK):Int->Prop
 | mk (q:Int) (h:M.isP q) (hs:∀ s∈M.rt q,En M s):En M (M.srt q)
inductive FT (M:lK):List Int->Int->Prop
 | head (t:Int) (l:List Int) (h:0<=t):FT M (t::l) t
 | sort (q:Int) (l:List Int) (t:Int) (h:M.isP q) (hf:FT M (M.rt q) t):FT M (M.srt q::l) t
 | skip (s:Int) (l:List Int) (t:Int) (h:En M s) (hf:FT M l t):FT M (s::l) t
inductive Lk (M:lK):Nat->Int->Nat->Int->Prop
 | start:Lk M 0 (-1) 0 63
 | goto (i:Nat) (p:Int) (d:Nat) (s t:Int) (h:Lk M i p d t) (hc:M.C i p d) (hs:(M.rt p)[d]?=some s):Lk M (M.to i s) p (d+1) t
 | first (i:Nat) (p:Int) (d:Nat) (q t:Int) (hc:M.C i p d) (hs:(M.rt p)[d]?=some (M.srt q)) (hq:M.isP q) (hf:FT M ((M.rt p).drop (d+1)) t):Lk M i q 0 t
 | nul (i:Nat) (p:Int) (d:Nat) (q t:Int) (h:Lk M i p d t) (hc:M.C i p d) (hs:(M.rt p)[d]?=some (M.srt q)) (hq:M.isP q) (hn:∀ s∈(M.rt p).drop (d+1),En M s):Lk M i q 0 t
inductive Path (M:lK):List Nat->List Int->Prop
 | base:Path M [0] []
 | more (i:Nat) (σ:List Nat) (γ:List Int) (s:Int) (h:Path M (i::σ) γ) (hg:0<=M.go i s):Path M (M.to i s::i::σ) (s::γ)
inductive Beg (M:lK) (i:Nat):Int->Prop
 | mk (p:Int) (d:Nat) (q:Int) (hc:M.C i p d) (hd:0<d\/p=-1) (hs:(M.rt p)[d]?=some (M.srt q)) (hq:M.isP q):Beg M i q
 | more (p q:Int) (h:Beg M i p) (hs:(M.rt p)[0]?=some (M.srt q)) (hq:M.isP q):Beg M i q
structure Ok (M:lK):Prop where
 neg:∀ q,M.isP q->M.srt q<0/\0<=q
 start:M.C 0 (-1) 0
 rt1:(M.rt (-1)).length=1
 lL:∀ i p d s,M.C i p d->(M.rt p)[d]?=some s->0<=M.go i s/\M.C (M.to i s) p (d+1)
 more:∀ i p d q,M.C i p d->(M.rt p)[d]?=some (M.srt q)->M.isP q->M.C i q 0
 back:∀ i s p d,0<=M.go i s->M.C (M.to i s) p (d+1)->(M.rt p)[d]?=some s/\M.C i p d
 want:∀ i p,M.C i p 0->M.isP p->0<=M.go i (M.srt p)
 fin:∃ N:Nat,∀ q,M.isP q->-(N:Int)<=M.srt q
 whole:∀ i,M.C i (-1) 0->i=0
 begun:∀ i q,M.C i q 0->M.isP q->Beg M i q
 zero:∀ p d,M.C 0 p d->d=0
 pos:∀ i s,0<=M.go i s->M.to i s≠0
 reach:∀ i p d,M.C i p d->∃ σ γ,Path M (i::σ) γ
 isp:∀ i p d,M.C i p d->p=-1\/M.isP p
 a_shift:∀ i t p d,M.C i p d->(M.rt p)[d]?=some t->0<=t->M.act i t=.shift (M.to i t)
 a_red:∀ i p t,Lk M i p (M.rt p).length t->M.isP p->M.act i t=.red p
 a_acc:∀ i t,Lk M i (-1) 1 t->M.act i t=.acc
 r_shift:∀ i t j,M.act i t=.shift j->0<=t/\t≠63/\0<=M.go i t/\j=M.to i t
 r_red:∀ i t p,M.act i t=.red p->M.isP p/\Lk M i p (M.rt p).length t
 r_acc:∀ i t,M.act i t=.acc->t=63/\Lk M i (-1) 1 t
def red (M:lK)(t:Int):List Nat->Option (List Nat)
 | []=>none
 | i::σ=>match M.act i t with
  | .red p=>match (i::σ).drop (M.rt p).length with
   | []=>none
   | j::τ=>some (M.to j (M.srt p)::j::τ)
  | _=>none
inductive Fin (M:lK) (t:Int):List Nat->Prop
 | stop (σ:List Nat) (h:red M t σ=none):Fin M t σ
 | go (σ τ:List Nat) (h:red M t σ=some τ) (hf:Fin M t τ):Fin M t σ
inductive Steps (M:lK) (t:Int):List Nat->List Nat->Prop
 | refl (σ:List Nat):Steps M t σ σ
 | step (σ τ υ:List Nat) (h:red M t σ=some τ) (hs:Steps M t τ υ):Steps M t σ υ
variable {M:lK}{t:Int}
theorem Steps.trans {a b c:List Nat}(h:Steps M t a b)(k:Steps M t b c):Steps M t a c:=by
 induction h with
 | refl=>exact k
 | step σ τ υ h _ ih=>exact .step σ τ c h (ih k)
theorem Steps.one {a b:List Nat}(h:red M t a=some b):Steps M t a b:=.step a b b h (.refl b)
theorem Fin.back {a b:List Nat}(h:Steps M t a b)(k:Fin M t b):Fin M t a:=by
 induction h with
 | refl=>exact k
 | step σ τ υ h _ ih=>exact .go σ τ h (ih k)
theorem Fin.fwd {a b:List Nat}(h:Steps M t a b)(k:Fin M t a):Fin M t b:=by
 induction h with
 | refl=>exact k
 | step σ τ υ h _ ih =>
  refine ih ?_;cases k with
  | stop _ h'=>rw[h]at h';cases h'
  | go _ τ' h' hf=>rw[h]at h';cases h';exact hf
theorem Fin.noloop {a:List Nat}(k:Fin M t a):∀ {b:List Nat},red M t a=some b->Steps M t b a->False:=by
 induction k with
 | stop σ h=>intro b h';rw[h]at h';cases h'
 | go σ τ h hf ih =>
  intro b h' hs;rw[h]at h';cases h';cases hs with
  | refl=>exact ih h (.refl _)
  | step _ τ' _ h2 hs2=>exact ih h2 (hs2.trans (.one h))
def ext (M:lK):List Nat->List Int->List Nat
 | σ,[]=>σ
 | [],_::_=>[]
 | i::σ,s::l=>ext M (M.to i s::i::σ) l
theorem wZ (σ:List Nat):ext M σ []=σ:=by cases σ<;>rfl
theorem nC (i:Nat)(σ:List Nat)(s:Int)(l:List Int):ext M (i::σ) (s::l)=ext M (M.to i s::i::σ) l:=rfl
theorem Lk.c (hM:Ok M){i:Nat}{p:Int}{d:Nat}(h:Lk M i p d t):M.C i p d:=by
 induction h with
 | start=>exact hM.start
 | goto i p d s t _ hc hs _=>exact(hM.lL i p d s hc hs).2
 | first i p d q t hc hs hq _=>exact hM.more i p d q hc hs hq
 | nul i p d q t _ hc hs hq _ _=>exact hM.more i p d q hc hs hq
theorem oJ {l r:List Int}{d:Nat}{s:Int}(h:l.drop d=s::r):l[d]?=some s/\l.drop (d+1)=r:=by
 have h0:(l.drop d)[0]?=some s:=by rw[h];rfl
 rw[List.getElem?_drop,Nat.add_zero]at h0;exact⟨h0,by rw[<-List.drop_drop,h];rfl⟩
theorem GU (hM:Ok M){q:Int}(hq:M.isP q)(j:Nat)(σ:List Nat):∀ (l:List Int) (d:Nat) (i:Nat) (τ:List Nat),(M.rt q).drop d=l->(i::τ).drop d=j::σ->Lk M i q d t->∃ u τ',ext M (i::τ) l=u::τ'/\red M t (u::τ')=some (M.to j (M.srt q)::j::σ)
 | [],d,i,τ,h1,h2,h3=>by
  refine⟨i,τ,rfl,?_⟩;have hd:(M.rt q).length<=d:=List.drop_eq_nil_iff.1 h1;have hlen:d=(M.rt q).length:=by
   cases h3 with
   | start=>omega
   | goto i p d s t _ hc hs=>have:=(List.getElem?_eq_some_iff.1 hs).1;omega
   | first=>omega
   | nul=>omega
  subst hlen;simp only[red,hM.a_red i q t h3 hq,h2]
 | s::l,d,i,τ,h1,h2,h3=>by
  obtain⟨g1,g2⟩:=oJ h1;rw[nC];exact GU hM hq j σ l (d+1) (M.to i s) (i::τ) g2 (by rw[List.drop_succ_cons];exact h2) (.goto i q d s t h3 (h3.c hM) g1)
theorem qI (hM:Ok M){q:Int}(hq:M.isP q){i:Nat}(σ:List Nat)(h:Lk M i q 0 t):∃ u τ',ext M (i::σ) (M.rt q)=u::τ'/\red M t (u::τ')=some (M.to i (M.srt q)::i::σ):=
 GU hM hq i σ (M.rt q) 0 i σ rfl rfl h
def Fol (M:lK)(i:Nat)(p:Int)(d:Nat)(t:Int):Prop:=FT M ((M.rt p).drop (d+1)) t\/((∀ s∈(M.rt p).drop (d+1),En M s)/\Lk M i p d t)
theorem Fol.lk {i:Nat}{p q:Int}{d:Nat}(h:Fol M i p d t)(hc:M.C i p d)(hs:(M.rt p)[d]?=some (M.srt q))(hq:M.isP q):Lk M i q 0 t:=by
 rcases h with h | ⟨h1,h2⟩
 ·exact .first i p d q t hc hs hq h
 ·exact .nul i p d q t h2 hc hs hq h1
theorem zG (hM:Ok M){s:Int}(h:En M s):∀ {i:Nat}(σ:List Nat) {p:Int}{d:Nat},M.C i p d->(M.rt p)[d]?=some s->Fol M i p d t->Steps M t (i::σ) (M.to i s::i::σ):=by
 induction h with
 | mk q hq hs ih =>
  intro i σ p d hc hsy hf;have h0:=hf.lk hc hsy hq;have key:∀ (l:List Int) (e:Nat) (u:Nat) (τ:List Nat),(M.rt q).drop e=l->Lk M u q e t->Steps M t (u::τ) (ext M (u::τ) l):=by
   intro l;induction l with
   | nil=>intro e u τ _ _;rw[wZ];exact .refl _
   | cons x l ihl =>
    intro e u τ he hl;obtain⟨g1,g2⟩:=oJ he;have hx:x∈M.rt q:=List.mem_of_getElem? g1;have hn:∀ s∈(M.rt q).drop (e+1),En M s:=fun s h=>hs s (List.mem_of_mem_drop h);rw[nC];exact(ih x hx τ (hl.c hM) g1 (.inr ⟨hn,hl⟩)).trans (ihl (e+1) _ _ g2 (.goto u q e x t hl (hl.c hM) g1))
  obtain⟨u,τ',e1,e2⟩:=qI hM hq σ h0;have k:=key (M.rt q) 0 i σ rfl h0;rw[e1]at k;exact k.trans (.one e2)
theorem sD (hM:Ok M){p:Int} : ∀ (l:List Int) (d:Nat) (i:Nat) (σ:List Nat),(M.rt p).drop d=l->(∀ s∈l,En M s)->Lk M i p d t->Steps M t (i::σ) (ext M (i::σ) l)
 | [],d,i,σ,_,_,_=>by rw[wZ];exact .refl _
 | x::l,d,i,σ,he,hn,hl=>by
  obtain⟨g1,g2⟩:=oJ he;rw[nC];exact(zG hM (hn x List.mem_cons_self) σ (hl.c hM) g1 (.inr ⟨by rw[g2];exact fun s h=>hn s (List.mem_cons_of_mem _ h),hl⟩)).trans
   (sD hM l (d+1) _ _ g2 (fun s h=>hn s (List.mem_cons_of_mem _ h)) (.goto i p d x t hl (hl.c hM) g1))
theorem IJ (hM:Ok M){l:List Int}(h:FT M l t):∀ {i:Nat}(σ:List Nat) {p:Int}{d:Nat},M.C i p d->(M.rt p).drop d=l->∃ u τ j,Steps M t (i::σ) (u::τ)/\M.act u t=.shift j:=by
 induction h with
 | head t l h0 =>
  intro i σ p d hc he;obtain⟨g1,g2⟩:=oJ he;exact⟨i,σ,_,.refl _,hM.a_shift i t p d hc g1 h0⟩
 | sort q l t hq hf ih =>
  intro i σ p d hc he;obtain⟨g1,g2⟩:=oJ he;exact ih σ (hM.more i p d q hc g1 hq) rfl
 | skip s l t hn hf ih =>
  intro i σ p d hc he;obtain⟨g1,g2⟩:=oJ he;obtain⟨u,τ,j,h1,h2⟩:=ih (i::σ) (hM.lL i p d s hc g1).2 g2;exact⟨u,τ,j,(zG hM hn σ hc g1 (.inl (by rw[g2];exact hf))).trans h1,h2⟩
theorem fst_fin (hM:Ok M){l:List Int}(h:FT M l t){i:Nat}(σ:List Nat){p:Int}{d:Nat}(hc:M.C i p d)(he:(M.rt p).drop d=l):Fin M t (i::σ):=by
 obtain⟨u,τ,j,h1,h2⟩:=IJ hM h σ hc he;exact Fin.back h1 (.stop _ (by simp only[red,h2]))
theorem J8 (hM:Ok M){i:Nat}{p:Int}{d:Nat}(h:Lk M i p d t):∃ σ γ,Path M (i::σ) γ/\Fin M t (ext M (i::σ) ((M.rt p).drop d)):=by
 induction h with
 | start =>
  refine⟨[],[],.base,?_⟩;obtain⟨s,hs⟩:∃ s,M.rt (-1)=[s]:=List.length_eq_one_iff.1 hM.rt1;rw[hs,List.drop_zero,nC,wZ];have h1:Lk M (M.to 0 s) (-1) (0+1) 63:=.goto 0 (-1) 0 s 63 .start hM.start (by rw[hs];rfl);exact .stop _ (by simp only[red,hM.a_acc _ _ h1])
 | goto i p d s t h hc hs ih =>
  obtain⟨σ,γ,h1,h2⟩:=ih;have e:(M.rt p).drop d=s::(M.rt p).drop (d+1):=by
   obtain⟨hl,he⟩:=List.getElem?_eq_some_iff.1 hs;rw[List.drop_eq_getElem_cons hl,he]
  rw[e,nC]at h2;exact⟨i::σ,s::γ,.more i σ γ s h1 (hM.lL i p d s hc hs).1,h2⟩
 | first i p d q t hc hs hq hf =>
  obtain⟨σ,γ,h1⟩:=hM.reach i p d hc;refine⟨σ,γ,h1,?_⟩;rw[List.drop_zero];obtain⟨u,τ',e1,e2⟩:=qI hM hq σ (Lk.first i p d q t hc hs hq hf);rw[e1];exact .go _ _ e2 (fst_fin hM hf (i::σ) (hM.lL i p d _ hc hs).2 rfl)
 | nul i p d q t h hc hs hq hn ih =>
  obtain⟨σ,γ,h1,h2⟩:=ih;refine⟨σ,γ,h1,?_⟩;rw[List.drop_zero];obtain⟨u,τ',e1,e2⟩:=qI hM hq σ (Lk.nul i p d q t h hc hs hq hn);rw[e1];have e:(M.rt p).drop d=M.srt q::(M.rt p).drop (d+1):=by
   obtain⟨hl,he⟩:=List.getElem?_eq_some_iff.1 hs;rw[List.drop_eq_getElem_cons hl,he]
  rw[e,nC]at h2;exact .go _ _ e2 (Fin.back (sD hM _ (d+1) _ _ rfl hn (.goto i p d _ t h hc hs)) h2)
theorem Gx {p:Int} : ∀ (d:Nat) {j:Nat},Lk M j p d t->∃ i,Lk M i p 0 t
 | 0,j,h=>⟨j,h⟩
 | d+1,j,h=>by
  cases h with
  | goto i _ _ s _ h hc hs=>exact Gx d h
theorem zA (hM:Ok M):∀ (d:Nat) {p:Int}{σ:List Nat}{γ:List Int}{i:Nat},Path M (i::σ) γ->M.C i p d->d<=γ.length/\(γ.take d).reverse=(M.rt p).take d/\∃ j τ,(i::σ).drop d=j::τ/\M.C j p 0/\Path M (j::τ) (γ.drop d)
 | 0,p,σ,γ,i,h,hc=>⟨Nat.zero_le _,by simp,i,σ,rfl,hc,h⟩
 | d+1,p,σ,γ,i,h,hc=>by
  cases h with
  | base =>
   exact absurd (hM.zero _ _ hc) (by omega)
  | more i σ γ s h hg =>
   obtain⟨h1,h2⟩:=hM.back i s p d hg hc;obtain⟨k1,k2,j,τ,k3,k4,k5⟩:=zA hM d h h2;refine⟨by rw[List.length_cons];omega,?_,j,τ,by rw[List.drop_succ_cons];exact k3,k4,by rw[List.drop_succ_cons];exact k5⟩;rw[List.take_succ_cons,List.reverse_cons,k2,List.take_add_one,h1];rfl
theorem lm (hM:Ok M){σ:List Nat}{γ:List Int}(h:Path M σ γ){τ:List Nat}(hr:red M t σ=some τ) :
  ∃ p i j υ,σ.head?=some i/\M.act i t=.red p/\Lk M i p (M.rt p).length t/\M.isP p/\(M.rt p).length<=γ.length/\(γ.take (M.rt p).length).reverse=M.rt p/\σ.drop (M.rt p).length=j::υ/\M.C j p 0/\Path M (j::υ) (γ.drop (M.rt p).length)/\τ=M.to j (M.srt p)::j::υ:=by
 cases σ with
 | nil=>cases hr
 | cons i σ =>
  cases ha:M.act i t with
  | wrong=>simp only[red,ha]at hr;cases hr
  | shift j=>simp only[red,ha]at hr;cases hr
  | acc=>simp only[red,ha]at hr;cases hr
  | red p =>
   obtain⟨hp,hl⟩:=hM.r_red i t p ha;obtain⟨k1,k2,j,υ,k3,k4,k5⟩:=zA hM _ h (hl.c hM);simp only[red,ha,k3]at hr;rw[List.take_length]at k2;exact⟨p,i,j,υ,rfl,ha,hl,hp,k1,k2,k3,k4,k5,(Option.some.inj hr).symm⟩
def Up (M:lK)(t:Int)(a b:Int):Prop:=∃ p δ i,M.isP p/\M.srt p=b/\M.rt p=a::δ/\(∀ s∈δ,En M s)/\Lk M i p (M.rt p).length t
inductive Ups (M:lK) (t:Int):Int->Int->Prop
 | one (a b:Int) (h:Up M t a b):Ups M t a b
 | more (a b c:Int) (h:Ups M t a b) (k:Up M t b c):Ups M t a c
def pF (M:lK)(t:Int)(a b:List Nat):Prop:=∃ c,red M t a=some c/\Steps M t c b
theorem Steps.then_ {a b c:List Nat}(h:Steps M t a b)(k:red M t b=some c):pF M t a c:=by
 cases h with
 | refl=>exact⟨c,k,.refl _⟩
 | step _ τ _ h1 h2=>exact⟨τ,h1,h2.trans (.one k)⟩
theorem pF.trans {a b c:List Nat}(h:pF M t a b)(k:pF M t b c):pF M t a c:=by
 obtain⟨d,h1,h2⟩:=h;obtain⟨e,k1,k2⟩:=k;exact⟨d,h1,h2.trans (.step _ _ _ k1 k2)⟩
def Leg (M:lK)(t:Int)(i:Nat)(b:Int):Prop:=∀ q,M.isP q->M.srt q=b->Lk M i q 0 t
theorem Cb (hM:Ok M){a b:Int}(h:Up M t a b){i:Nat}(σ:List Nat)(hl:Leg M t i b):pF M t (M.to i a::i::σ) (M.to i b::i::σ)/\Leg M t i a:=by
 obtain⟨p,δ,j,h1,rfl,h3,h4,h5⟩:=h;have hp:=hl p h1 rfl;have g1:(M.rt p)[0]?=some a:=by rw[h3];rfl
 have g2:(M.rt p).drop (0+1)=δ:=by rw[h3];rfl
 obtain⟨u,τ',e1,e2⟩:=qI hM h1 σ hp;rw[h3,nC]at e1;have k:=sD hM δ 1 (M.to i a) (i::σ) g2 h4 (.goto i p 0 a t hp (hp.c hM) g1);rw[e1]at k;refine⟨k.then_ e2,fun q hq he=>?_⟩;subst he;exact .nul i p 0 q t hp (hp.c hM) g1 hq (by rw[g2];exact h4)
theorem Hy (hM:Ok M){a b:Int}(h:Ups M t a b){i:Nat}(σ:List Nat)(hl:Leg M t i b):pF M t (M.to i a::i::σ) (M.to i b::i::σ)/\Leg M t i a:=by
 induction h with
 | one b h=>exact Cb hM h σ hl
 | more b c h k ih =>
  obtain⟨k1,k2⟩:=Cb hM k σ hl;obtain⟨h1,h2⟩:=ih k2;exact⟨h1.trans k1,h2⟩
theorem Ups.last {a b:Int}(h:Ups M t a b):∃ c,Up M t c b:=by
 cases h with
 | one _ h=>exact⟨_,h⟩
 | more c _ _ k=>exact⟨_,k⟩
theorem Ups.first {a b:Int}(h:Ups M t a b):∃ c,Up M t a c:=by
 induction h with
 | one b h=>exact⟨_,h⟩
 | more b c _ _ ih=>exact ih
theorem xy (hM:Ok M){a:Int}(h:Ups M t a a):False:=by
 obtain⟨b,p,δ,j,h1,h2,h3,h4,h5⟩:=h.first
 obtain⟨i,hi⟩:=Gx _ h5;have g1:(M.rt p)[0]?=some a:=by rw[h3];rfl
 have g2:(M.rt p).drop (0+1)=δ:=by rw[h3];rfl
 have hl:Leg M t i a:=fun q hq he=>by
  subst he;exact .nul i p 0 q t hi (hi.c hM) g1 hq (by rw[g2];exact h4)
 obtain⟨c,q,_,_,q1,q2,_⟩:=h.last;have hq:=hl q q1 q2;obtain⟨σ,γ,_,hf⟩:=J8 hM hq;obtain⟨u,τ',e1,e2⟩:=qI hM q1 σ hq;rw[List.drop_zero,e1]at hf;have hf:=Fin.fwd (.one e2) hf;rw[q2]at hf;obtain⟨⟨d,d1,d2⟩,_⟩:=Hy hM h σ hl;exact hf.noloop d1 d2
theorem Lp (hM:Ok M){u:Nat}{σ0 ρ:List Nat}{a:Int}{γ:List Int}
  (hex:∀ (τ:List Nat) (δ:List Int) υ,Path M (τ++u::ρ) (δ++a::γ)->δ.length=τ.length->(∀ s∈δ,En M s)->red M t (τ++u::ρ)=some υ->(∀ p i,(τ++u::ρ).head?=some i->M.act i t=.red p->τ.length+1<=(M.rt p).length)->Fin M t υ)
  {ς:List Nat}(hf:Fin M t ς):∀ (τ:List Nat) (δ:List Int),ς=τ++u::σ0->Path M (τ++u::ρ) (δ++a::γ)->δ.length=τ.length->(∀ s∈δ,En M s)->Fin M t (τ++u::ρ):=by
 induction hf with
 | stop ς h =>
  intro τ δ e hp hl hn;subst e;cases hr:red M t (τ++u::ρ)with
  | none=>exact .stop _ hr
  | some υ =>
   obtain⟨p,i,j,ω,k1,k2,k3,k4,k5,k6,k7,k8,k9,k10⟩:=lm hM hp hr;by_cases hk:τ.length+1<=(M.rt p).length
   ·exact .go _ _ hr (hex τ δ υ hp hl hn hr fun p' i' h1 h2=>by
     rw[k1]at h1;cases h1;rw[k2]at h2;cases h2;exact hk)
   ·exfalso;cases τ with
    | nil =>
     obtain rfl:u=i:=Option.some.inj k1;have h0:(M.rt p).length=0:=by simpa using hk
     simp only[List.nil_append,red,k2,h0,List.drop_zero]at h;cases h
    | cons x τ =>
     obtain rfl:x=i:=Option.some.inj k1;have h0:(M.rt p).length<=(x::τ).length:=by omega
     have e2:(x::τ++u::σ0).drop (M.rt p).length=(x::τ).drop (M.rt p).length++u::σ0:=List.drop_append_of_le_length h0;cases h3:(x::τ).drop (M.rt p).length with
     | nil=>rw[h3]at e2;rw[List.cons_append]at e2 h;simp only[red,k2,e2,List.nil_append]at h;cases h
     | cons y r=>rw[h3]at e2;rw[List.cons_append]at e2 h;simp only[red,k2,e2,List.cons_append]at h;cases h
 | go ς ς' h hf ih =>
  intro τ δ e hp hl hn;subst e;cases hr:red M t (τ++u::ρ)with
  | none=>exact .stop _ hr
  | some υ =>
   obtain⟨p,i,j,ω,k1,k2,k3,k4,k5,k6,k7,k8,k9,k10⟩:=lm hM hp hr;by_cases hk:τ.length+1<=(M.rt p).length
   ·exact .go _ _ hr (hex τ δ υ hp hl hn hr fun p' i' h1 h2=>by
     rw[k1]at h1;cases h1;rw[k2]at h2;cases h2;exact hk)
   ·have hk:(M.rt p).length<=τ.length:=(by omega);have e1:(τ++u::ρ).drop (M.rt p).length=τ.drop (M.rt p).length++u::ρ:=List.drop_append_of_le_length hk;have e3:(δ++a::γ).drop (M.rt p).length=δ.drop (M.rt p).length++a::γ:=List.drop_append_of_le_length (by omega);have e4:(δ++a::γ).take (M.rt p).length=δ.take (M.rt p).length:=List.take_append_of_le_length (by omega);have e2:(τ++u::σ0).drop (M.rt p).length=τ.drop (M.rt p).length++u::σ0:=List.drop_append_of_le_length hk;have hhd:∃ r,τ++u::σ0=i::r:=by
     cases τ with
     | nil=>obtain rfl:u=i:=Option.some.inj k1;exact⟨_,rfl⟩
     | cons x τ=>obtain rfl:x=i:=Option.some.inj k1;exact⟨_,rfl⟩
    obtain⟨r,hr0⟩:=hhd;have hj:∃ r2:List Nat,τ.drop (M.rt p).length++u::σ0=j::r2:=by
     rw[e1]at k7;cases h3:τ.drop (M.rt p).length with
     | nil=>rw[h3]at k7;exact⟨σ0,by rw[List.nil_append]at k7 ⊢;injection k7 with k7 _;rw[k7]⟩
     | cons y r=>rw[h3]at k7;exact⟨r++u::σ0,by rw[List.cons_append]at k7 ⊢;injection k7 with k7 _;rw[k7]⟩
    obtain⟨r2,hr2⟩:=hj;rw[hr0]at h e2;simp only[red,k2,e2,hr2]at h;have h:=Option.some.inj h;rw[e1]at k7;rw[e3]at k9;rw[e4]at k6;have hnul:En M (M.srt p):=.mk p k4 fun s hs=>by
     rw[<-k6]at hs;exact hn s (List.mem_of_mem_take (List.mem_reverse.1 hs))
    have:=ih (M.to j (M.srt p)::τ.drop (M.rt p).length) (M.srt p::δ.drop (M.rt p).length) (by rw[<-h,List.cons_append,hr2]) (by
     rw[List.cons_append,List.cons_append,k7];exact .more j ω _ _ k9 (hM.want j p k8 k4)) (by rw[List.length_cons,List.length_cons,List.length_drop,List.length_drop,hl]) (fun s hs=>by
     rcases List.mem_cons.1 hs with e | e
     ·rw[e];exact hnul
     ·exact hn s (List.mem_of_mem_drop e))
    rw[List.cons_append,k7]at this;refine .go _ _ hr ?_;rw[k10];exact this
theorem uZ:∀ (N:Nat)(V:List Int),V.Nodup->(∀ v∈V,-(N:Int)<=v/\v<0)->V.length<=N
 | 0,V,_,h=>by
  cases V with
  | nil=>exact bJ _
  | cons v V=>have:=h v List.mem_cons_self;omega
 | N+1,V,hd,h=>by
  by_cases hm:(-((N:Int)+1))∈V
  ·have h1:=uZ N (V.erase (-((N:Int)+1))) (hd.erase _) (fun v hv=>by
    have h2:=(hd.mem_erase_iff.1 hv);have h3:=h v h2.2;have h4:=h2.1;omega)
   rw[List.length_erase_of_mem hm]at h1;omega
  ·have h1:=uZ N V hd (fun v hv=>by
    have h3:=h v hv;have h4:v≠-((N:Int)+1):=fun e=>hm (e▸hv);omega)
   omega
theorem fin_put (hM:Ok M){N:Nat}(hN:∀ q,M.isP q->-(N:Int)<=M.srt q):∀ (m:Nat) (j:Nat) (υ:List Nat) (γ:List Int),υ.length<=m->Path M (j::υ) γ->∀ q,M.isP q->0<=M.go j (M.srt q)->Fin M t (M.to j (M.srt q)::j::υ):=by
 intro m;induction m using Nat.strongRecOn with
 | _ m ihm =>
  intro j υ γ hm hp;have inner:∀ (k:Nat) (V:List Int) (q:Int),V.Nodup->(∀ v∈V,(-(N:Int)<=v/\v<0)/\Ups M t v (M.srt q))->V.length+k=N->M.isP q->0<=M.go j (M.srt q)->Fin M t (M.to j (M.srt q)::j::υ):=by
   intro k;induction k with
   | zero =>
    intro V q hd hV hl hq hg;have hnot:M.srt q∉V:=fun h=>xy hM (hV _ h).2;have:=uZ N (M.srt q::V) (List.nodup_cons.2 ⟨hnot,hd⟩) (fun v hv=>by
     rcases List.mem_cons.1 hv with e | e
     ·rw[e];exact⟨hN q hq,(hM.neg q hq).1⟩
     ·exact(hV v e).1)
    rw[List.length_cons]at this;omega
   | succ k ih =>
    intro V q hd hV hl hq hg;have hnot:M.srt q∉V:=fun h=>xy hM (hV _ h).2;have hpu:Path M (M.to j (M.srt q)::j::υ) (M.srt q::γ):=.more j υ γ _ hp hg;cases hr:red M t (M.to j (M.srt q)::j::υ)with
    | none=>exact .stop _ hr
    | some ω =>
     obtain⟨p,i,j',ω',k1,k2,k3,k4,_⟩:=lm hM hpu hr;obtain rfl:M.to j (M.srt q)=i:=Option.some.inj k1;obtain⟨σ0,_,_,hf⟩:=J8 hM k3;rw[List.drop_length,wZ]at hf;refine Lp hM (u:=M.to j (M.srt q)) (σ0:=σ0) (ρ:=j::υ) (a:=M.srt q) (γ:=γ) ?_ hf [] [] rfl hpu rfl (fun s hs=>by cases hs);intro τ δ ω2 hp2 hl2 hn2 hr2 hlen;obtain⟨p2,i2,j2,υ2,c1,c2,c3,c4,c5,c6,c7,c8,c9,c10⟩:=lm hM hp2 hr2;have hlen:=hlen p2 i2 c1 c2;have hw:=hM.want j2 p2 c8 c4;rw[c10];by_cases he:(M.rt p2).length=τ.length+1
     ·have e1:(τ++M.to j (M.srt q)::j::υ).drop (τ.length+1)=j::υ:=by
       rw[<-List.drop_drop,List.drop_left];rfl
      rw[he,e1]at c7;injection c7 with c7 c7';subst c7 c7';have e2:(δ++M.srt q::γ).take (τ.length+1)=δ++[M.srt q]:=by
       rw[<-hl2,List.take_append,List.take_of_length_le (Nat.le_succ _),Nat.add_sub_cancel_left];rfl
      rw[he,e2,List.reverse_append]at c6;have hup:Up M t (M.srt q) (M.srt p2):=⟨p2,δ.reverse,i2,c4,rfl,c6.symm,fun s hs=>hn2 s (List.mem_reverse.1 hs),c3⟩;refine ih (M.srt q::V) p2 (List.nodup_cons.2 ⟨hnot,hd⟩) (fun v hv=>?_) (by rw[List.length_cons];omega) c4 hw;rcases List.mem_cons.1 hv with e | e
      ·rw[e];exact⟨⟨hN q hq,(hM.neg q hq).1⟩,.one _ _ hup⟩
      ·exact⟨(hV v e).1,.more _ _ _ (hV v e).2 hup⟩
     ·have hl3:=congrArg List.length c7;rw[List.length_drop,List.length_append,List.length_cons,List.length_cons,List.length_cons]at hl3;exact ihm υ2.length (by omega) j2 υ2 _ (bJ _) c9 p2 c4 hw
  intro q hq hg;exact inner N [] q List.nodup_nil (fun v hv=>by cases hv) (by simp) hq hg
theorem fin_all (hM:Ok M){σ:List Nat}{γ:List Int}(h:Path M σ γ):Fin M t σ:=by
 obtain⟨N,hN⟩:=hM.fin;cases hr:red M t σ with
 | none=>exact .stop _ hr
 | some ω =>
  obtain⟨p,i,j,υ,k1,k2,k3,k4,k5,k6,k7,k8,k9,k10⟩:=lm hM h hr;refine .go _ _ hr ?_;rw[k10];exact fin_put hM hN _ j υ _ (bJ _) k9 p k4 (hM.want j p k8 k4)
inductive Der (M:lK):List Int->List Int->Prop
 | nil:Der M [] []
 | term (t:Int) (l w:List Int) (h:0<=t) (hd:Der M l w):Der M (t::l) (t::w)
 | sort (q:Int) (l x w:List Int) (hq:M.isP q) (h1:Der M (M.rt q) x) (h2:Der M l w):Der M (M.srt q::l) (x++w)
theorem Der.nul {l x:List Int}(h:Der M l x)(hx:x=[]):∀ s∈l,En M s:=by
 induction h with
 | nil=>intro s hs;cases hs
 | term=>cases hx
 | sort q l x w hq _ _ ih1 ih2 =>
  have e:=List.append_eq_nil_iff.1 hx;intro s hs;rcases List.mem_cons.1 hs with e1 | e1
  ·rw[e1];exact .mk q hq (ih1 e.1)
  ·exact ih2 e.2 s e1
theorem Der.fst {l x:List Int}(h:Der M l x):∀ {t:Int}{y:List Int},x=t::y->FT M l t:=by
 induction h with
 | nil=>intro t y e;cases e
 | term t l w h _ _=>intro t' y e;injection e with e1 _;subst e1;exact .head t l h
 | sort q l x w hq h1 h2 ih1 ih2 =>
  intro t y e;cases x with
  | nil=>exact .skip _ l t (.mk q hq (h1.nul rfl)) (ih2 e)
  | cons a x =>
   injection e with e1 _;subst e1;exact .sort q l a hq (ih1 rfl)
def hd (w:List Int):Int:=w.head?.getD 63
inductive Go (M:lK):List Nat->List Int->List Nat->List Int->Prop
 | refl (σ:List Nat) (w:List Int):Go M σ w σ w
 | red (σ τ υ:List Nat) (w v:List Int) (h:red M (hd w) σ=some τ) (hg:Go M τ w υ v):Go M σ w υ v
 | shift (i j:Nat) (σ υ:List Nat) (t:Int) (w v:List Int) (h:M.act i t=.shift j) (hg:Go M (j::i::σ) w υ v):Go M (i::σ) (t::w) υ v
theorem Go.trans {a b c:List Nat}{x y z:List Int}(h:Go M a x b y)(k:Go M b y c z):Go M a x c z:=by
 induction h with
 | refl=>exact k
 | red σ τ υ w v h _ ih=>exact .red σ τ _ w _ h (ih k)
 | shift i j σ υ t w v h _ ih=>exact .shift i j σ _ t w _ h (ih k)
inductive pG (M:lK) (inT:Int->Prop):List Nat->List Int->Bool->List Int->Prop
 | bad (σ:List Nat) (t:Int) (w:List Int) (h:¬ inT t):pG M inT σ (t::w) false (t::w)
 | acc (i:Nat) (σ:List Nat) (w:List Int) (hi:∀ t∈w.head?,inT t) (h:M.act i (hd w)=.acc):pG M inT (i::σ) w true w
 | wrong (i:Nat) (σ:List Nat) (w:List Int) (hi:∀ t∈w.head?,inT t) (h:M.act i (hd w)=.wrong):pG M inT (i::σ) w false w
 | shift (i j:Nat) (σ:List Nat) (t:Int) (w:List Int) (b:Bool) (r:List Int) (hi:inT t) (h:M.act i t=.shift j) (hr:pG M inT (j::i::σ) w b r):pG M inT (i::σ) (t::w) b r
 | red (σ τ:List Nat) (w:List Int) (b:Bool) (r:List Int) (hi:∀ t∈w.head?,inT t) (h:LR.red M (hd w) σ=some τ) (hr:pG M inT τ w b r):pG M inT σ w b r
variable {inT:Int->Prop}
theorem kY {i:Nat}{σ τ:List Nat}(h:red M t (i::σ)=some τ):∃ p,M.act i t=.red p:=by
 cases ha:M.act i t with
 | wrong=>simp only[red,ha]at h;cases h
 | shift j=>simp only[red,ha]at h;cases h
 | acc=>simp only[red,ha]at h;cases h
 | red p=>exact⟨p,rfl⟩
theorem pG.one {σ:List Nat}{w:List Int}{b:Bool}{r:List Int}(h:pG M inT σ w b r):∀ {b':Bool}{r':List Int},pG M inT σ w b' r'->b=b'/\r=r':=by
 induction h with
 | bad σ t w h =>
  intro b' r' k;cases k with
  | bad=>exact⟨rfl,rfl⟩
  | acc i σ _ hi=>exact absurd (hi t rfl) h
  | wrong i σ _ hi=>exact absurd (hi t rfl) h
  | shift i j σ t w b r hi=>exact absurd hi h
  | red σ τ w b r hi=>exact absurd (hi t rfl) h
 | acc i σ w hi h =>
  intro b' r' k;cases k with
  | bad _ t w h'=>exact absurd (hi t rfl) h'
  | acc=>exact⟨rfl,rfl⟩
  | wrong _ _ _ _ h'=>rw[h]at h';cases h'
  | shift _ j _ t w b r _ h'=>rw[show hd (t::w)=t from rfl]at h;rw[h]at h';cases h'
  | red _ τ w b r _ h'=>obtain⟨p,e⟩:=kY h';rw[h]at e;cases e
 | wrong i σ w hi h =>
  intro b' r' k;cases k with
  | bad _ t w h'=>exact absurd (hi t rfl) h'
  | acc _ _ _ _ h'=>rw[h]at h';cases h'
  | wrong=>exact⟨rfl,rfl⟩
  | shift _ j _ t w b r _ h'=>rw[show hd (t::w)=t from rfl]at h;rw[h]at h';cases h'
  | red _ τ w b r _ h'=>obtain⟨p,e⟩:=kY h';rw[h]at e;cases e
 | shift i j σ t w b r hi h hr ih =>
  intro b' r' k;cases k with
  | bad _ t w h'=>exact absurd hi h'
  | acc _ _ _ _ h'=>rw[show hd (t::w)=t from rfl]at h';rw[h]at h';cases h'
  | wrong _ _ _ _ h'=>rw[show hd (t::w)=t from rfl]at h';rw[h]at h';cases h'
  | shift _ j' _ _ _ _ _ _ h' k=>rw[h]at h';cases h';exact ih k
  | red _ τ w b r _ h'=>obtain⟨p,e⟩:=kY h';rw[show hd (t::w)=t from rfl,h]at e;cases e
 | red σ τ w b r hi h hr ih =>
  intro b' r' k;cases k with
  | bad _ t w h'=>exact absurd (hi t rfl) h'
  | acc _ _ _ _ h'=>obtain⟨p,e⟩:=kY h;rw[e]at h';cases h'
  | wrong _ _ _ _ h'=>obtain⟨p,e⟩:=kY h;rw[e]at h';cases h'
  | shift _ j _ t w b r _ h'=>obtain⟨p,e⟩:=kY h;rw[show hd (t::w)=t from rfl,h']at e;cases e
  | red _ τ' w b r _ h' k=>rw[h]at h';cases h';exact ih k
theorem pG.left {σ:List Nat}{w:List Int}{b:Bool}{r:List Int}(h:pG M inT σ w b r):r <:+ w:=by
 induction h with
 | bad=>exact List.suffix_refl _
 | acc=>exact List.suffix_refl _
 | wrong=>exact List.suffix_refl _
 | shift i j σ t w b r _ _ _ ih=>exact ih.trans (List.suffix_cons _ _)
 | red _ _ _ _ _ _ _ _ ih=>exact ih
theorem pG.go {σ:List Nat}{w:List Int}{b:Bool}{r:List Int}(h:pG M inT σ w b r):∃ τ,Go M σ w τ r/\((∃ t v,r=t::v/\¬ inT t/\b=false)\/(∃ i υ,τ=i::υ/\(∀ t∈r.head?,inT t)/\M.act i (hd r)=(if b=true then .acc else .wrong))):=by
 induction h with
 | bad σ t w h=>exact⟨σ,.refl _ _,.inl ⟨t,w,rfl,h,rfl⟩⟩
 | acc i σ w hi h=>exact⟨_,.refl _ _,.inr ⟨i,σ,rfl,hi,h⟩⟩
 | wrong i σ w hi h=>exact⟨_,.refl _ _,.inr ⟨i,σ,rfl,hi,h⟩⟩
 | shift i j σ t w b r hi h hr ih=>obtain⟨τ,h1,h2⟩:=ih;exact⟨τ,.shift i j σ τ t w r h h1,h2⟩
 | red σ τ w b r hi h hr ih=>obtain⟨υ,h1,h2⟩:=ih;exact⟨υ,.red σ τ υ w r h h1,h2⟩
end LR
end Go.Proofs.YticmnfmijdgmbaaGreatDoor
