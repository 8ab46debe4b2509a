/- A machine that shifts and reduces: that it ends, and what it accepts. -/
import Derived.Test.YticmnfmijdgmbaaGreatDoorSm
set_option linter.unusedVariables false
set_option linter.unusedSimpArgs false
namespace Go.Proofs.YticmnfmijdgmbaaGreatDoor
namespace LR
inductive Do where
 | wrong
 | shift (j:Nat)
 | red (p:Int)
 | acc
structure Mach where
 rt:Int->List Int
 srt:Int->Int
 isP:Int->Prop
 C:Nat->Int->Nat->Prop
 go:Nat->Int->Int
 act:Nat->Int->Do
def Mach.to (M:Mach) (i:Nat) (s:Int):Nat:=(M.go i s).toNat
inductive Nul (M:Mach):Int->Prop
 | mk (q:Int) (h:M.isP q) (hs:∀ s ∈ M.rt q,Nul M s):Nul M (M.srt q)
inductive Fst (M:Mach):List Int->Int->Prop
 | head (t:Int) (l:List Int) (h:0<=t):Fst M (t :: l) t
 | sort (q:Int) (l:List Int) (t:Int) (h:M.isP q) (hf:Fst M (M.rt q) t):Fst M (M.srt q :: l) t
 | skip (s:Int) (l:List Int) (t:Int) (h:Nul M s) (hf:Fst M l t):Fst M (s :: l) t
inductive Lk (M:Mach):Nat->Int->Nat->Int->Prop
 | start:Lk M 0 (-1) 0 63
 | goto (i:Nat) (p:Int) (d:Nat) (s t:Int) (h:Lk M i p d t) (hc:M.C i p d) (hs:(M.rt p)[d]?=some s):Lk M (M.to i s) p (d + 1) t
 | first (i:Nat) (p:Int) (d:Nat) (q t:Int) (hc:M.C i p d) (hs:(M.rt p)[d]?=some (M.srt q)) (hq:M.isP q) (hf:Fst M ((M.rt p).drop (d + 1)) t):Lk M i q 0 t
 | nul (i:Nat) (p:Int) (d:Nat) (q t:Int) (h:Lk M i p d t) (hc:M.C i p d) (hs:(M.rt p)[d]?=some (M.srt q)) (hq:M.isP q) (hn:∀ s ∈ (M.rt p).drop (d + 1),Nul M s):Lk M i q 0 t
inductive Path (M:Mach):List Nat->List Int->Prop
 | base:Path M [0] []
 | more (i:Nat) (σ:List Nat) (γ:List Int) (s:Int) (h:Path M (i :: σ) γ) (hg:0<=M.go i s):Path M (M.to i s :: i :: σ) (s :: γ)
inductive Beg (M:Mach) (i:Nat):Int->Prop
 | mk (p:Int) (d:Nat) (q:Int) (hc:M.C i p d) (hd:0 < d\/p=-1) (hs:(M.rt p)[d]?=some (M.srt q)) (hq:M.isP q):Beg M i q
 | more (p q:Int) (h:Beg M i p) (hs:(M.rt p)[0]?=some (M.srt q)) (hq:M.isP q):Beg M i q
structure Ok (M:Mach):Prop where
 neg:∀ q,M.isP q->M.srt q < 0/\0<=q
 start:M.C 0 (-1) 0
 rt1:(M.rt (-1)).length=1
 goto_:∀ i p d s,M.C i p d->(M.rt p)[d]?=some s->0<=M.go i s/\M.C (M.to i s) p (d + 1)
 more:∀ i p d q,M.C i p d->(M.rt p)[d]?=some (M.srt q)->M.isP q->M.C i q 0
 back:∀ i s p d,0<=M.go i s->M.C (M.to i s) p (d + 1)->(M.rt p)[d]?=some s/\M.C i p d
 want:∀ i p,M.C i p 0->M.isP p->0<=M.go i (M.srt p)
 fin:∃ N:Nat,∀ q,M.isP q->-(N:Int)<=M.srt q
 whole:∀ i,M.C i (-1) 0->i=0
 begun:∀ i q,M.C i q 0->M.isP q->Beg M i q
 zero:∀ p d,M.C 0 p d->d=0
 pos:∀ i s,0<=M.go i s->M.to i s ≠ 0
 reach:∀ i p d,M.C i p d->∃ σ γ,Path M (i :: σ) γ
 isp:∀ i p d,M.C i p d->p=-1\/M.isP p
 a_shift:∀ i t p d,M.C i p d->(M.rt p)[d]?=some t->0<=t->M.act i t=.shift (M.to i t)
 a_red:∀ i p t,Lk M i p (M.rt p).length t->M.isP p->M.act i t=.red p
 a_acc:∀ i t,Lk M i (-1) 1 t->M.act i t=.acc
 r_shift:∀ i t j,M.act i t=.shift j->0<=t/\t ≠ 63/\0<=M.go i t/\j=M.to i t
 r_red:∀ i t p,M.act i t=.red p->M.isP p/\Lk M i p (M.rt p).length t
 r_acc:∀ i t,M.act i t=.acc->t=63/\Lk M i (-1) 1 t
def red (M:Mach) (t:Int):List Nat->Option (List Nat)
 | []=>none
 | i :: σ=>match M.act i t with
  | .red p=>match (i :: σ).drop (M.rt p).length with
   | []=>none
   | j :: τ=>some (M.to j (M.srt p) :: j :: τ)
  | _=>none
inductive Fin (M:Mach) (t:Int):List Nat->Prop
 | stop (σ:List Nat) (h:red M t σ=none):Fin M t σ
 | go (σ τ:List Nat) (h:red M t σ=some τ) (hf:Fin M t τ):Fin M t σ
inductive Steps (M:Mach) (t:Int):List Nat->List Nat->Prop
 | refl (σ:List Nat):Steps M t σ σ
 | step (σ τ υ:List Nat) (h:red M t σ=some τ) (hs:Steps M t τ υ):Steps M t σ υ
variable {M:Mach} {t:Int}
theorem Steps.trans {a b c:List Nat} (h:Steps M t a b) (k:Steps M t b c):Steps M t a c:=by
 induction h with
 | refl=>exact k
 | step σ τ υ h _ ih=>exact .step σ τ c h (ih k)
theorem Steps.one {a b:List Nat} (h:red M t a=some b):Steps M t a b:=.step a b b h (.refl b)
theorem Fin.back {a b:List Nat} (h:Steps M t a b) (k:Fin M t b):Fin M t a:=by
 induction h with
 | refl=>exact k
 | step σ τ υ h _ ih=>exact .go σ τ h (ih k)
theorem Fin.fwd {a b:List Nat} (h:Steps M t a b) (k:Fin M t a):Fin M t b:=by
 induction h with
 | refl=>exact k
 | step σ τ υ h _ ih =>
  refine ih ?_
  cases k with
  | stop _ h'=>rw [h] at h'; cases h'
  | go _ τ' h' hf=>rw [h] at h'; cases h'; exact hf
theorem Fin.noloop {a:List Nat} (k:Fin M t a):∀ {b:List Nat},red M t a=some b->Steps M t b a->False:=by
 induction k with
 | stop σ h=>intro b h'; rw [h] at h'; cases h'
 | go σ τ h hf ih =>
  intro b h' hs
  rw [h] at h'
  cases h'
  cases hs with
  | refl=>exact ih h (.refl _)
  | step _ τ' _ h2 hs2=>exact ih h2 (hs2.trans (.one h))
def ext (M:Mach):List Nat->List Int->List Nat
 | σ,[]=>σ
 | [],_ :: _=>[]
 | i :: σ,s :: l=>ext M (M.to i s :: i :: σ) l
theorem ext_nil (σ:List Nat):ext M σ []=σ:=by cases σ <;> rfl
theorem ext_cons (i:Nat) (σ:List Nat) (s:Int) (l:List Int):ext M (i :: σ) (s :: l)=ext M (M.to i s :: i :: σ) l:=rfl
theorem Lk.c (hM:Ok M) {i:Nat} {p:Int} {d:Nat} (h:Lk M i p d t):M.C i p d:=by
 induction h with
 | start=>exact hM.start
 | goto i p d s t _ hc hs _=>exact (hM.goto_ i p d s hc hs).2
 | first i p d q t hc hs hq _=>exact hM.more i p d q hc hs hq
 | nul i p d q t _ hc hs hq _ _=>exact hM.more i p d q hc hs hq
theorem get_drop {l r:List Int} {d:Nat} {s:Int} (h:l.drop d=s :: r):l[d]?=some s/\l.drop (d + 1)=r:=by
 have h0:(l.drop d)[0]?=some s:=by rw [h]; rfl
 rw [List.getElem?_drop,Nat.add_zero] at h0
 exact ⟨h0,by rw [<-List.drop_drop,h]; rfl⟩
theorem ext_red (hM:Ok M) {q:Int} (hq:M.isP q) (j:Nat) (σ:List Nat):∀ (l:List Int) (d:Nat) (i:Nat) (τ:List Nat),(M.rt q).drop d=l->(i :: τ).drop d=j :: σ->Lk M i q d t->∃ u τ',ext M (i :: τ) l=u :: τ'/\red M t (u :: τ')=some (M.to j (M.srt q) :: j :: σ)
 | [],d,i,τ,h1,h2,h3=>by
  refine ⟨i,τ,rfl,?_⟩
  have hd:(M.rt q).length<=d:=List.drop_eq_nil_iff.1 h1
  have hlen:d=(M.rt q).length:=by
   cases h3 with
   | start=>omega
   | goto i p d s t _ hc hs=>have:=(List.getElem?_eq_some_iff.1 hs).1; omega
   | first=>omega
   | nul=>omega
  subst hlen
  simp only [red,hM.a_red i q t h3 hq,h2]
 | s :: l,d,i,τ,h1,h2,h3=>by
  obtain ⟨g1,g2⟩:=get_drop h1
  rw [ext_cons]
  exact ext_red hM hq j σ l (d + 1) (M.to i s) (i :: τ) g2 (by rw [List.drop_succ_cons]; exact h2) (.goto i q d s t h3 (h3.c hM) g1)
theorem ext_red0 (hM:Ok M) {q:Int} (hq:M.isP q) {i:Nat} (σ:List Nat) (h:Lk M i q 0 t):∃ u τ',ext M (i :: σ) (M.rt q)=u :: τ'/\red M t (u :: τ')=some (M.to i (M.srt q) :: i :: σ):=
 ext_red hM hq i σ (M.rt q) 0 i σ rfl rfl h
def Fol (M:Mach) (i:Nat) (p:Int) (d:Nat) (t:Int):Prop:=Fst M ((M.rt p).drop (d + 1)) t\/((∀ s ∈ (M.rt p).drop (d + 1),Nul M s)/\Lk M i p d t)
theorem Fol.lk {i:Nat} {p q:Int} {d:Nat} (h:Fol M i p d t) (hc:M.C i p d) (hs:(M.rt p)[d]?=some (M.srt q)) (hq:M.isP q):Lk M i q 0 t:=by
 rcases h with h | ⟨h1,h2⟩
 ·exact .first i p d q t hc hs hq h
 ·exact .nul i p d q t h2 hc hs hq h1
theorem nul_steps (hM:Ok M) {s:Int} (h:Nul M s):∀ {i:Nat} (σ:List Nat) {p:Int} {d:Nat},M.C i p d->(M.rt p)[d]?=some s->Fol M i p d t->Steps M t (i :: σ) (M.to i s :: i :: σ):=by
 induction h with
 | mk q hq hs ih =>
  intro i σ p d hc hsy hf
  have h0:=hf.lk hc hsy hq
  have key:∀ (l:List Int) (e:Nat) (u:Nat) (τ:List Nat),(M.rt q).drop e=l->Lk M u q e t->Steps M t (u :: τ) (ext M (u :: τ) l):=by
   intro l
   induction l with
   | nil=>intro e u τ _ _; rw [ext_nil]; exact .refl _
   | cons x l ihl =>
    intro e u τ he hl
    obtain ⟨g1,g2⟩:=get_drop he
    have hx:x ∈ M.rt q:=List.mem_of_getElem? g1
    have hn:∀ s ∈ (M.rt q).drop (e + 1),Nul M s:=fun s h=>hs s (List.mem_of_mem_drop h)
    rw [ext_cons]
    exact (ih x hx τ (hl.c hM) g1 (.inr ⟨hn,hl⟩)).trans (ihl (e + 1) _ _ g2 (.goto u q e x t hl (hl.c hM) g1))
  obtain ⟨u,τ',e1,e2⟩:=ext_red0 hM hq σ h0
  have k:=key (M.rt q) 0 i σ rfl h0
  rw [e1] at k
  exact k.trans (.one e2)
theorem nuls_steps (hM:Ok M) {p:Int} : ∀ (l:List Int) (d:Nat) (i:Nat) (σ:List Nat),(M.rt p).drop d=l->(∀ s ∈ l,Nul M s)->Lk M i p d t->Steps M t (i :: σ) (ext M (i :: σ) l)
 | [],d,i,σ,_,_,_=>by rw [ext_nil]; exact .refl _
 | x :: l,d,i,σ,he,hn,hl=>by
  obtain ⟨g1,g2⟩:=get_drop he
  rw [ext_cons]
  exact (nul_steps hM (hn x List.mem_cons_self) σ (hl.c hM) g1 (.inr ⟨by rw [g2]; exact fun s h=>hn s (List.mem_cons_of_mem _ h),hl⟩)).trans
   (nuls_steps hM l (d + 1) _ _ g2 (fun s h=>hn s (List.mem_cons_of_mem _ h)) (.goto i p d x t hl (hl.c hM) g1))
theorem fst_shift (hM:Ok M) {l:List Int} (h:Fst M l t):∀ {i:Nat} (σ:List Nat) {p:Int} {d:Nat},M.C i p d->(M.rt p).drop d=l->∃ u τ j,Steps M t (i :: σ) (u :: τ)/\M.act u t=.shift j:=by
 induction h with
 | head t l h0 =>
  intro i σ p d hc he
  obtain ⟨g1,g2⟩:=get_drop he
  exact ⟨i,σ,_,.refl _,hM.a_shift i t p d hc g1 h0⟩
 | sort q l t hq hf ih =>
  intro i σ p d hc he
  obtain ⟨g1,g2⟩:=get_drop he
  exact ih σ (hM.more i p d q hc g1 hq) rfl
 | skip s l t hn hf ih =>
  intro i σ p d hc he
  obtain ⟨g1,g2⟩:=get_drop he
  obtain ⟨u,τ,j,h1,h2⟩:=ih (i :: σ) (hM.goto_ i p d s hc g1).2 g2
  exact ⟨u,τ,j,(nul_steps hM hn σ hc g1 (.inl (by rw [g2]; exact hf))).trans h1,h2⟩
theorem fst_fin (hM:Ok M) {l:List Int} (h:Fst M l t) {i:Nat} (σ:List Nat) {p:Int} {d:Nat} (hc:M.C i p d) (he:(M.rt p).drop d=l):Fin M t (i :: σ):=by
 obtain ⟨u,τ,j,h1,h2⟩:=fst_shift hM h σ hc he
 exact Fin.back h1 (.stop _ (by simp only [red,h2]))
theorem lk_fin (hM:Ok M) {i:Nat} {p:Int} {d:Nat} (h:Lk M i p d t):∃ σ γ,Path M (i :: σ) γ/\Fin M t (ext M (i :: σ) ((M.rt p).drop d)):=by
 induction h with
 | start =>
  refine ⟨[],[],.base,?_⟩
  obtain ⟨s,hs⟩:∃ s,M.rt (-1)=[s]:=List.length_eq_one_iff.1 hM.rt1
  rw [hs,List.drop_zero,ext_cons,ext_nil]
  have h1:Lk M (M.to 0 s) (-1) (0 + 1) 63:=.goto 0 (-1) 0 s 63 .start hM.start (by rw [hs]; rfl)
  exact .stop _ (by simp only [red,hM.a_acc _ _ h1])
 | goto i p d s t h hc hs ih =>
  obtain ⟨σ,γ,h1,h2⟩:=ih
  have e:(M.rt p).drop d=s :: (M.rt p).drop (d + 1):=by
   obtain ⟨hl,he⟩:=List.getElem?_eq_some_iff.1 hs
   rw [List.drop_eq_getElem_cons hl,he]
  rw [e,ext_cons] at h2
  exact ⟨i :: σ,s :: γ,.more i σ γ s h1 (hM.goto_ i p d s hc hs).1,h2⟩
 | first i p d q t hc hs hq hf =>
  obtain ⟨σ,γ,h1⟩:=hM.reach i p d hc
  refine ⟨σ,γ,h1,?_⟩
  rw [List.drop_zero]
  obtain ⟨u,τ',e1,e2⟩:=ext_red0 hM hq σ (Lk.first i p d q t hc hs hq hf)
  rw [e1]
  exact .go _ _ e2 (fst_fin hM hf (i :: σ) (hM.goto_ i p d _ hc hs).2 rfl)
 | nul i p d q t h hc hs hq hn ih =>
  obtain ⟨σ,γ,h1,h2⟩:=ih
  refine ⟨σ,γ,h1,?_⟩
  rw [List.drop_zero]
  obtain ⟨u,τ',e1,e2⟩:=ext_red0 hM hq σ (Lk.nul i p d q t h hc hs hq hn)
  rw [e1]
  have e:(M.rt p).drop d=M.srt q :: (M.rt p).drop (d + 1):=by
   obtain ⟨hl,he⟩:=List.getElem?_eq_some_iff.1 hs
   rw [List.drop_eq_getElem_cons hl,he]
  rw [e,ext_cons] at h2
  exact .go _ _ e2 (Fin.back (nuls_steps hM _ (d + 1) _ _ rfl hn (.goto i p d _ t h hc hs)) h2)
theorem lk_back {p:Int} : ∀ (d:Nat) {j:Nat},Lk M j p d t->∃ i,Lk M i p 0 t
 | 0,j,h=>⟨j,h⟩
 | d + 1,j,h=>by
  cases h with
  | goto i _ _ s _ h hc hs=>exact lk_back d h
theorem path_back (hM:Ok M):∀ (d:Nat) {p:Int} {σ:List Nat} {γ:List Int} {i:Nat},Path M (i :: σ) γ->M.C i p d->d<=γ.length/\(γ.take d).reverse=(M.rt p).take d/\∃ j τ,(i :: σ).drop d=j :: τ/\M.C j p 0/\Path M (j :: τ) (γ.drop d)
 | 0,p,σ,γ,i,h,hc=>⟨Nat.zero_le _,by simp,i,σ,rfl,hc,h⟩
 | d + 1,p,σ,γ,i,h,hc=>by
  cases h with
  | base =>
   exact absurd (hM.zero _ _ hc) (by omega)
  | more i σ γ s h hg =>
   obtain ⟨h1,h2⟩:=hM.back i s p d hg hc
   obtain ⟨k1,k2,j,τ,k3,k4,k5⟩:=path_back hM d h h2
   refine ⟨by rw [List.length_cons]; omega,?_,j,τ,by rw [List.drop_succ_cons]; exact k3,k4,by rw [List.drop_succ_cons]; exact k5⟩
   rw [List.take_succ_cons,List.reverse_cons,k2,List.take_add_one,h1]
   rfl
theorem path_red (hM:Ok M) {σ:List Nat} {γ:List Int} (h:Path M σ γ) {τ:List Nat} (hr:red M t σ=some τ) :
  ∃ p i j υ,σ.head?=some i/\M.act i t=.red p/\Lk M i p (M.rt p).length t/\M.isP p/\(M.rt p).length<=γ.length/\(γ.take (M.rt p).length).reverse=M.rt p/\σ.drop (M.rt p).length=j :: υ/\M.C j p 0/\Path M (j :: υ) (γ.drop (M.rt p).length)/\τ=M.to j (M.srt p) :: j :: υ:=by
 cases σ with
 | nil=>cases hr
 | cons i σ =>
  cases ha:M.act i t with
  | wrong=>simp only [red,ha] at hr; cases hr
  | shift j=>simp only [red,ha] at hr; cases hr
  | acc=>simp only [red,ha] at hr; cases hr
  | red p =>
   obtain ⟨hp,hl⟩:=hM.r_red i t p ha
   obtain ⟨k1,k2,j,υ,k3,k4,k5⟩:=path_back hM _ h (hl.c hM)
   simp only [red,ha,k3] at hr
   rw [List.take_length] at k2
   exact ⟨p,i,j,υ,rfl,ha,hl,hp,k1,k2,k3,k4,k5,(Option.some.inj hr).symm⟩
def Up (M:Mach) (t:Int) (a b:Int):Prop:=∃ p δ i,M.isP p/\M.srt p=b/\M.rt p=a :: δ/\(∀ s ∈ δ,Nul M s)/\Lk M i p (M.rt p).length t
inductive Ups (M:Mach) (t:Int):Int->Int->Prop
 | one (a b:Int) (h:Up M t a b):Ups M t a b
 | more (a b c:Int) (h:Ups M t a b) (k:Up M t b c):Ups M t a c
def Steps1 (M:Mach) (t:Int) (a b:List Nat):Prop:=∃ c,red M t a=some c/\Steps M t c b
theorem Steps.then_ {a b c:List Nat} (h:Steps M t a b) (k:red M t b=some c):Steps1 M t a c:=by
 cases h with
 | refl=>exact ⟨c,k,.refl _⟩
 | step _ τ _ h1 h2=>exact ⟨τ,h1,h2.trans (.one k)⟩
theorem Steps1.trans {a b c:List Nat} (h:Steps1 M t a b) (k:Steps1 M t b c):Steps1 M t a c:=by
 obtain ⟨d,h1,h2⟩:=h
 obtain ⟨e,k1,k2⟩:=k
 exact ⟨d,h1,h2.trans (.step _ _ _ k1 k2)⟩
def Leg (M:Mach) (t:Int) (i:Nat) (b:Int):Prop:=∀ q,M.isP q->M.srt q=b->Lk M i q 0 t
theorem up_steps (hM:Ok M) {a b:Int} (h:Up M t a b) {i:Nat} (σ:List Nat) (hl:Leg M t i b):Steps1 M t (M.to i a :: i :: σ) (M.to i b :: i :: σ)/\Leg M t i a:=by
 obtain ⟨p,δ,j,h1,rfl,h3,h4,h5⟩:=h
 have hp:=hl p h1 rfl
 have g1:(M.rt p)[0]?=some a:=by rw [h3]; rfl
 have g2:(M.rt p).drop (0 + 1)=δ:=by rw [h3]; rfl
 obtain ⟨u,τ',e1,e2⟩:=ext_red0 hM h1 σ hp
 rw [h3,ext_cons] at e1
 have k:=nuls_steps hM δ 1 (M.to i a) (i :: σ) g2 h4 (.goto i p 0 a t hp (hp.c hM) g1)
 rw [e1] at k
 refine ⟨k.then_ e2,fun q hq he=>?_⟩
 subst he
 exact .nul i p 0 q t hp (hp.c hM) g1 hq (by rw [g2]; exact h4)
theorem ups_steps (hM:Ok M) {a b:Int} (h:Ups M t a b) {i:Nat} (σ:List Nat) (hl:Leg M t i b):Steps1 M t (M.to i a :: i :: σ) (M.to i b :: i :: σ)/\Leg M t i a:=by
 induction h with
 | one b h=>exact up_steps hM h σ hl
 | more b c h k ih =>
  obtain ⟨k1,k2⟩:=up_steps hM k σ hl
  obtain ⟨h1,h2⟩:=ih k2
  exact ⟨h1.trans k1,h2⟩
theorem Ups.last {a b:Int} (h:Ups M t a b):∃ c,Up M t c b:=by
 cases h with
 | one _ h=>exact ⟨_,h⟩
 | more c _ _ k=>exact ⟨_,k⟩
theorem Ups.first {a b:Int} (h:Ups M t a b):∃ c,Up M t a c:=by
 induction h with
 | one b h=>exact ⟨_,h⟩
 | more b c _ _ ih=>exact ih
theorem ups_irrefl (hM:Ok M) {a:Int} (h:Ups M t a a):False:=by
 obtain ⟨b,p,δ,j,h1,h2,h3,h4,h5⟩:=h.first
 obtain ⟨i,hi⟩:=lk_back _ h5
 have g1:(M.rt p)[0]?=some a:=by rw [h3]; rfl
 have g2:(M.rt p).drop (0 + 1)=δ:=by rw [h3]; rfl
 have hl:Leg M t i a:=fun q hq he=>by
  subst he
  exact .nul i p 0 q t hi (hi.c hM) g1 hq (by rw [g2]; exact h4)
 obtain ⟨c,q,_,_,q1,q2,_⟩:=h.last
 have hq:=hl q q1 q2
 obtain ⟨σ,γ,_,hf⟩:=lk_fin hM hq
 obtain ⟨u,τ',e1,e2⟩:=ext_red0 hM q1 σ hq
 rw [List.drop_zero,e1] at hf
 have hf:=Fin.fwd (.one e2) hf
 rw [q2] at hf
 obtain ⟨⟨d,d1,d2⟩,_⟩:=ups_steps hM h σ hl
 exact hf.noloop d1 d2
theorem fin_move (hM:Ok M) {u:Nat} {σ0 ρ:List Nat} {a:Int} {γ:List Int}
  (hex:∀ (τ:List Nat) (δ:List Int) υ,Path M (τ ++ u :: ρ) (δ ++ a :: γ)->δ.length=τ.length->(∀ s ∈ δ,Nul M s)->red M t (τ ++ u :: ρ)=some υ->(∀ p i,(τ ++ u :: ρ).head?=some i->M.act i t=.red p->τ.length + 1<=(M.rt p).length)->Fin M t υ)
  {ς:List Nat} (hf:Fin M t ς):∀ (τ:List Nat) (δ:List Int),ς=τ ++ u :: σ0->Path M (τ ++ u :: ρ) (δ ++ a :: γ)->δ.length=τ.length->(∀ s ∈ δ,Nul M s)->Fin M t (τ ++ u :: ρ):=by
 induction hf with
 | stop ς h =>
  intro τ δ e hp hl hn
  subst e
  cases hr:red M t (τ ++ u :: ρ) with
  | none=>exact .stop _ hr
  | some υ =>
   obtain ⟨p,i,j,ω,k1,k2,k3,k4,k5,k6,k7,k8,k9,k10⟩:=path_red hM hp hr
   by_cases hk:τ.length + 1<=(M.rt p).length
   ·exact .go _ _ hr (hex τ δ υ hp hl hn hr fun p' i' h1 h2=>by
     rw [k1] at h1; cases h1; rw [k2] at h2; cases h2; exact hk)
   ·exfalso
    cases τ with
    | nil =>
     obtain rfl:u=i:=Option.some.inj k1
     have h0:(M.rt p).length=0:=by simpa using hk
     simp only [List.nil_append,red,k2,h0,List.drop_zero] at h
     cases h
    | cons x τ =>
     obtain rfl:x=i:=Option.some.inj k1
     have h0:(M.rt p).length<=(x :: τ).length:=by omega
     have e2:(x :: τ ++ u :: σ0).drop (M.rt p).length=(x :: τ).drop (M.rt p).length ++ u :: σ0:=List.drop_append_of_le_length h0
     cases h3:(x :: τ).drop (M.rt p).length with
     | nil=>rw [h3] at e2; rw [List.cons_append] at e2 h; simp only [red,k2,e2,List.nil_append] at h; cases h
     | cons y r=>rw [h3] at e2; rw [List.cons_append] at e2 h; simp only [red,k2,e2,List.cons_append] at h; cases h
 | go ς ς' h hf ih =>
  intro τ δ e hp hl hn
  subst e
  cases hr:red M t (τ ++ u :: ρ) with
  | none=>exact .stop _ hr
  | some υ =>
   obtain ⟨p,i,j,ω,k1,k2,k3,k4,k5,k6,k7,k8,k9,k10⟩:=path_red hM hp hr
   by_cases hk:τ.length + 1<=(M.rt p).length
   ·exact .go _ _ hr (hex τ δ υ hp hl hn hr fun p' i' h1 h2=>by
     rw [k1] at h1; cases h1; rw [k2] at h2; cases h2; exact hk)
   ·have hk:(M.rt p).length<=τ.length:=by omega
    have e1:(τ ++ u :: ρ).drop (M.rt p).length=τ.drop (M.rt p).length ++ u :: ρ:=List.drop_append_of_le_length hk
    have e3:(δ ++ a :: γ).drop (M.rt p).length=δ.drop (M.rt p).length ++ a :: γ:=List.drop_append_of_le_length (by omega)
    have e4:(δ ++ a :: γ).take (M.rt p).length=δ.take (M.rt p).length:=List.take_append_of_le_length (by omega)
    have e2:(τ ++ u :: σ0).drop (M.rt p).length=τ.drop (M.rt p).length ++ u :: σ0:=List.drop_append_of_le_length hk
    have hhd:∃ r,τ ++ u :: σ0=i :: r:=by
     cases τ with
     | nil=>obtain rfl:u=i:=Option.some.inj k1; exact ⟨_,rfl⟩
     | cons x τ=>obtain rfl:x=i:=Option.some.inj k1; exact ⟨_,rfl⟩
    obtain ⟨r,hr0⟩:=hhd
    have hj:∃ r2:List Nat,τ.drop (M.rt p).length ++ u :: σ0=j :: r2:=by
     rw [e1] at k7
     cases h3:τ.drop (M.rt p).length with
     | nil=>rw [h3] at k7; exact ⟨σ0,by rw [List.nil_append] at k7 ⊢; injection k7 with k7 _; rw [k7]⟩
     | cons y r=>rw [h3] at k7; exact ⟨r ++ u :: σ0,by rw [List.cons_append] at k7 ⊢; injection k7 with k7 _; rw [k7]⟩
    obtain ⟨r2,hr2⟩:=hj
    rw [hr0] at h e2
    simp only [red,k2,e2,hr2] at h
    have h:=Option.some.inj h
    rw [e1] at k7
    rw [e3] at k9
    rw [e4] at k6
    have hnul:Nul M (M.srt p):=.mk p k4 fun s hs=>by
     rw [<-k6] at hs
     exact hn s (List.mem_of_mem_take (List.mem_reverse.1 hs))
    have:=ih (M.to j (M.srt p) :: τ.drop (M.rt p).length) (M.srt p :: δ.drop (M.rt p).length) (by rw [<-h,List.cons_append,hr2]) (by
     rw [List.cons_append,List.cons_append,k7]
     exact .more j ω _ _ k9 (hM.want j p k8 k4)) (by rw [List.length_cons,List.length_cons,List.length_drop,List.length_drop,hl]) (fun s hs=>by
     rcases List.mem_cons.1 hs with e | e
     ·rw [e]; exact hnul
     ·exact hn s (List.mem_of_mem_drop e))
    rw [List.cons_append,k7] at this
    refine .go _ _ hr ?_
    rw [k10]
    exact this
theorem nodup_len:∀ (N:Nat) (V:List Int),V.Nodup->(∀ v ∈ V,-(N:Int)<=v/\v < 0)->V.length<=N
 | 0,V,_,h=>by
  cases V with
  | nil=>exact Nat.le_refl _
  | cons v V=>have:=h v List.mem_cons_self; omega
 | N + 1,V,hd,h=>by
  by_cases hm:(-((N:Int) + 1)) ∈ V
  ·have h1:=nodup_len N (V.erase (-((N:Int) + 1))) (hd.erase _) (fun v hv=>by
    have h2:=(hd.mem_erase_iff.1 hv)
    have h3:=h v h2.2
    have h4:=h2.1
    omega)
   rw [List.length_erase_of_mem hm] at h1
   omega
  ·have h1:=nodup_len N V hd (fun v hv=>by
    have h3:=h v hv
    have h4:v ≠ -((N:Int) + 1):=fun e=>hm (e ▸ hv)
    omega)
   omega
theorem fin_put (hM:Ok M) {N:Nat} (hN:∀ q,M.isP q->-(N:Int)<=M.srt q):∀ (m:Nat) (j:Nat) (υ:List Nat) (γ:List Int),υ.length<=m->Path M (j :: υ) γ->∀ q,M.isP q->0<=M.go j (M.srt q)->Fin M t (M.to j (M.srt q) :: j :: υ):=by
 intro m
 induction m using Nat.strongRecOn with
 | _ m ihm =>
  intro j υ γ hm hp
  have inner:∀ (k:Nat) (V:List Int) (q:Int),V.Nodup->(∀ v ∈ V,(-(N:Int)<=v/\v < 0)/\Ups M t v (M.srt q))->V.length + k=N->M.isP q->0<=M.go j (M.srt q)->Fin M t (M.to j (M.srt q) :: j :: υ):=by
   intro k
   induction k with
   | zero =>
    intro V q hd hV hl hq hg
    have hnot:M.srt q ∉ V:=fun h=>ups_irrefl hM (hV _ h).2
    have:=nodup_len N (M.srt q :: V) (List.nodup_cons.2 ⟨hnot,hd⟩) (fun v hv=>by
     rcases List.mem_cons.1 hv with e | e
     ·rw [e]; exact ⟨hN q hq,(hM.neg q hq).1⟩
     ·exact (hV v e).1)
    rw [List.length_cons] at this
    omega
   | succ k ih =>
    intro V q hd hV hl hq hg
    have hnot:M.srt q ∉ V:=fun h=>ups_irrefl hM (hV _ h).2
    have hpu:Path M (M.to j (M.srt q) :: j :: υ) (M.srt q :: γ):=.more j υ γ _ hp hg
    cases hr:red M t (M.to j (M.srt q) :: j :: υ) with
    | none=>exact .stop _ hr
    | some ω =>
     obtain ⟨p,i,j',ω',k1,k2,k3,k4,_⟩:=path_red hM hpu hr
     obtain rfl:M.to j (M.srt q)=i:=Option.some.inj k1
     obtain ⟨σ0,_,_,hf⟩:=lk_fin hM k3
     rw [List.drop_length,ext_nil] at hf
     refine fin_move hM (u:=M.to j (M.srt q)) (σ0:=σ0) (ρ:=j :: υ) (a:=M.srt q) (γ:=γ) ?_ hf [] [] rfl hpu rfl (fun s hs=>by cases hs)
     intro τ δ ω2 hp2 hl2 hn2 hr2 hlen
     obtain ⟨p2,i2,j2,υ2,c1,c2,c3,c4,c5,c6,c7,c8,c9,c10⟩:=path_red hM hp2 hr2
     have hlen:=hlen p2 i2 c1 c2
     have hw:=hM.want j2 p2 c8 c4
     rw [c10]
     by_cases he:(M.rt p2).length=τ.length + 1
     ·have e1:(τ ++ M.to j (M.srt q) :: j :: υ).drop (τ.length + 1)=j :: υ:=by
       rw [<-List.drop_drop,List.drop_left]; rfl
      rw [he,e1] at c7
      injection c7 with c7 c7'
      subst c7 c7'
      have e2:(δ ++ M.srt q :: γ).take (τ.length + 1)=δ ++ [M.srt q]:=by
       rw [<-hl2,List.take_append,List.take_of_length_le (Nat.le_succ _),Nat.add_sub_cancel_left]
       rfl
      rw [he,e2,List.reverse_append] at c6
      have hup:Up M t (M.srt q) (M.srt p2):=⟨p2,δ.reverse,i2,c4,rfl,c6.symm,fun s hs=>hn2 s (List.mem_reverse.1 hs),c3⟩
      refine ih (M.srt q :: V) p2 (List.nodup_cons.2 ⟨hnot,hd⟩) (fun v hv=>?_) (by rw [List.length_cons]; omega) c4 hw
      rcases List.mem_cons.1 hv with e | e
      ·rw [e]; exact ⟨⟨hN q hq,(hM.neg q hq).1⟩,.one _ _ hup⟩
      ·exact ⟨(hV v e).1,.more _ _ _ (hV v e).2 hup⟩
     ·have hl3:=congrArg List.length c7
      rw [List.length_drop,List.length_append,List.length_cons,List.length_cons,List.length_cons] at hl3
      exact ihm υ2.length (by omega) j2 υ2 _ (Nat.le_refl _) c9 p2 c4 hw
  intro q hq hg
  exact inner N [] q List.nodup_nil (fun v hv=>by cases hv) (by simp) hq hg
theorem fin_all (hM:Ok M) {σ:List Nat} {γ:List Int} (h:Path M σ γ):Fin M t σ:=by
 obtain ⟨N,hN⟩:=hM.fin
 cases hr:red M t σ with
 | none=>exact .stop _ hr
 | some ω =>
  obtain ⟨p,i,j,υ,k1,k2,k3,k4,k5,k6,k7,k8,k9,k10⟩:=path_red hM h hr
  refine .go _ _ hr ?_
  rw [k10]
  exact fin_put hM hN _ j υ _ (Nat.le_refl _) k9 p k4 (hM.want j p k8 k4)
inductive Der (M:Mach):List Int->List Int->Prop
 | nil:Der M [] []
 | term (t:Int) (l w:List Int) (h:0<=t) (hd:Der M l w):Der M (t :: l) (t :: w)
 | sort (q:Int) (l x w:List Int) (hq:M.isP q) (h1:Der M (M.rt q) x) (h2:Der M l w):Der M (M.srt q :: l) (x ++ w)
theorem Der.app {l m x y:List Int} (h:Der M l x) (k:Der M m y):Der M (l ++ m) (x ++ y):=by
 induction h with
 | nil=>exact k
 | term t l w h _ ih=>exact .term t _ _ h ih
 | sort q l x w hq h1 _ _ ih=>rw [List.append_assoc]; exact .sort q _ x _ hq h1 ih
theorem Der.cut:∀ {l m x:List Int},Der M (l ++ m) x->∃ y z,x=y ++ z/\Der M l y/\Der M m z
 | [],m,x,h=>⟨[],x,rfl,.nil,h⟩
 | s :: l,m,x,h=>by
  rw [List.cons_append] at h
  generalize hz:s :: (l ++ m)=r at h
  cases h with
  | nil=>cases hz
  | term t _ w h0 hd =>
   injection hz with e1 e2
   subst e1 e2
   obtain ⟨y,z,rfl,h1,h2⟩:=Der.cut hd
   exact ⟨s :: y,z,rfl,.term s l y h0 h1,h2⟩
  | sort q _ x' w hq k1 k2 =>
   injection hz with e1 e2
   subst e2
   subst e1
   obtain ⟨y,z,rfl,h1,h2⟩:=Der.cut k2
   exact ⟨x' ++ y,z,by rw [List.append_assoc],.sort q l x' y hq k1 h1,h2⟩
theorem Der.nul {l x:List Int} (h:Der M l x) (hx:x=[]):∀ s ∈ l,Nul M s:=by
 induction h with
 | nil=>intro s hs; cases hs
 | term=>cases hx
 | sort q l x w hq _ _ ih1 ih2 =>
  have e:=List.append_eq_nil_iff.1 hx
  intro s hs
  rcases List.mem_cons.1 hs with e1 | e1
  ·rw [e1]; exact .mk q hq (ih1 e.1)
  ·exact ih2 e.2 s e1
theorem Der.fst {l x:List Int} (h:Der M l x):∀ {t:Int} {y:List Int},x=t :: y->Fst M l t:=by
 induction h with
 | nil=>intro t y e; cases e
 | term t l w h _ _=>intro t' y e; injection e with e1 _; subst e1; exact .head t l h
 | sort q l x w hq h1 h2 ih1 ih2 =>
  intro t y e
  cases x with
  | nil=>exact .skip _ l t (.mk q hq (h1.nul rfl)) (ih2 e)
  | cons a x =>
   injection e with e1 _
   subst e1
   exact .sort q l a hq (ih1 rfl)
def hd (w:List Int):Int:=w.head?.getD 63
inductive Go (M:Mach):List Nat->List Int->List Nat->List Int->Prop
 | refl (σ:List Nat) (w:List Int):Go M σ w σ w
 | red (σ τ υ:List Nat) (w v:List Int) (h:red M (hd w) σ=some τ) (hg:Go M τ w υ v):Go M σ w υ v
 | shift (i j:Nat) (σ υ:List Nat) (t:Int) (w v:List Int) (h:M.act i t=.shift j) (hg:Go M (j :: i :: σ) w υ v):Go M (i :: σ) (t :: w) υ v
theorem Go.trans {a b c:List Nat} {x y z:List Int} (h:Go M a x b y) (k:Go M b y c z):Go M a x c z:=by
 induction h with
 | refl=>exact k
 | red σ τ υ w v h _ ih=>exact .red σ τ _ w _ h (ih k)
 | shift i j σ υ t w v h _ ih=>exact .shift i j σ _ t w _ h (ih k)
theorem der_go (hM:Ok M) {l x:List Int} (h:Der M l x):∀ {i:Nat} (σ:List Nat) {p:Int} {d:Nat} (w:List Int),(M.rt p).drop d=l->Lk M i p d (hd w)->Go M (i :: σ) (x ++ w) (ext M (i :: σ) l) w:=by
 induction h with
 | nil=>intro i σ p d w _ _; rw [ext_nil]; exact .refl _ _
 | term t l x h0 hd ih =>
  intro i σ p d w he hl
  obtain ⟨g1,g2⟩:=get_drop he
  rw [ext_cons]
  exact .shift i _ σ _ t _ _ (hM.a_shift i t p d (hl.c hM) g1 h0) (ih (i :: σ) w g2 (.goto i p d t _ hl (hl.c hM) g1))
 | sort q l x w' hq h1 h2 ih1 ih2 =>
  intro i σ p d w he hl
  obtain ⟨g1,g2⟩:=get_drop he
  have hq0:Lk M i q 0 (hd (w' ++ w)):=by
   cases w' with
   | nil=>exact .nul i p d q _ hl (hl.c hM) g1 hq (by rw [g2]; exact h2.nul rfl)
   | cons t y=>exact .first i p d q _ (hl.c hM) g1 hq (by rw [g2]; exact h2.fst rfl)
  have k1:=ih1 σ (w' ++ w) rfl hq0
  obtain ⟨u,τ',e1,e2⟩:=ext_red0 hM hq σ hq0
  rw [e1] at k1
  rw [List.append_assoc,ext_cons]
  exact k1.trans (.red _ _ _ _ _ e2 (ih2 (i :: σ) w g2 (.goto i p d _ _ hl (hl.c hM) g1)))
theorem go_der (hM:Ok M) {σ τ:List Nat} {w v:List Int} (h:Go M σ w τ v):∀ {γ:List Int} {x:List Int},Path M σ γ->Der M γ.reverse x->∃ δ y,Path M τ δ/\Der M δ.reverse (x ++ y)/\w=y ++ v:=by
 induction h with
 | refl σ w=>intro γ x hp hd; exact ⟨γ,[],hp,by rw [List.append_nil]; exact hd,rfl⟩
 | red σ τ υ w v h _ ih =>
  intro γ x hp hd
  obtain ⟨p,i,j,ω,k1,k2,k3,k4,k5,k6,k7,k8,k9,k10⟩:=path_red hM hp h
  have e:γ.reverse=(γ.drop (M.rt p).length).reverse ++ M.rt p:=by
   rw [<-k6,List.length_reverse,List.length_take,Nat.min_eq_left k5,<-List.reverse_append,List.take_append_drop]
  rw [e] at hd
  obtain ⟨y,z,rfl,h1,h2⟩:=hd.cut
  refine ih (γ:=M.srt p :: γ.drop (M.rt p).length) (by rw [k10]; exact .more j ω _ _ k9 (hM.want j p k8 k4)) ?_
  rw [List.reverse_cons]
  have:=Der.sort p [] z [] k4 h2 .nil
  rw [List.append_nil] at this
  exact h1.app this
 | shift i j σ υ t w v h _ ih =>
  intro γ x hp hd
  obtain ⟨h1,_,h2,rfl⟩:=hM.r_shift i t j h
  obtain ⟨δ,y,k1,k2,k3⟩:=ih (γ:=t :: γ) (x:=x ++ [t]) (.more i σ γ t hp h2) (by rw [List.reverse_cons]; exact hd.app (.term t [] [] h1 .nil))
  exact ⟨δ,t :: y,k1,by rw [List.append_assoc] at k2; exact k2,by rw [k3]; rfl⟩
theorem acc_path (hM:Ok M) {i:Nat} {σ:List Nat} {γ:List Int} (h:Path M (i :: σ) γ) (ha:M.act i t=.acc):t=63/\γ.reverse=M.rt (-1):=by
 obtain ⟨rfl,hl⟩:=hM.r_acc i t ha
 obtain ⟨k1,k2,j,τ,k3,k4,k5⟩:=path_back hM 1 h (hl.c hM)
 obtain rfl:=hM.whole j k4
 have e1:γ.drop 1=[]:=by
  generalize hz:γ.drop 1=δ at k5
  generalize hy:(0 :: τ:List Nat)=υ at k5
  cases k5 with
  | base=>rfl
  | more i' σ' γ' s h' hg =>
   injection hy with e1 _
   exact absurd e1.symm (hM.pos i' s hg)
 refine ⟨rfl,?_⟩
 have e2:γ.take 1=γ:=by
  have:=List.take_append_drop 1 γ
  rw [e1,List.append_nil] at this
  exact this
 rw [e2] at k2
 rw [k2]
 exact List.take_of_length_le (by rw [hM.rt1]; exact Nat.le_refl _)
def Live (M:Mach):Prop:=∀ (p:Int) (d:Nat) (s:Int),(M.rt p)[d]?=some s->∃ y,Der M [s] y
theorem live_row {p:Int} (hL:Live M):∀ (l:List Int),(∀ s ∈ l,s ∈ M.rt p)->∃ y,Der M l y
 | [],_=>⟨[],.nil⟩
 | s :: l,h=>by
  obtain ⟨y,hy⟩:=live_row hL l fun s hs=>h s (List.mem_cons_of_mem _ hs)
  obtain ⟨d,hd⟩:=List.mem_iff_getElem?.1 (h s List.mem_cons_self)
  obtain ⟨x,hx⟩:=hL p d s hd
  exact ⟨x ++ y,Der.app (l:=[s]) hx hy⟩
theorem drop_get {l:List Int} {d:Nat} {s:Int} (h:l[d]?=some s):l.drop d=s :: l.drop (d + 1):=by
 obtain ⟨hl,he⟩:=List.getElem?_eq_some_iff.1 h
 rw [List.drop_eq_getElem_cons hl,he]
theorem path_begins (hM:Ok M) (hL:Live M):∀ (m:Nat) {i:Nat} {σ:List Nat} {γ:List Int},γ.length<=m->Path M (i :: σ) γ->∀ {p:Int} {d:Nat},M.C i p d->(0 < d\/p=-1)->∃ y2,∀ x y1,Der M γ.reverse x->Der M ((M.rt p).drop d) y1->Der M (M.rt (-1)) (x ++ (y1 ++ y2)):=by
 intro m
 induction m using Nat.strongRecOn with
 | _ m ih =>
  intro i σ γ hm hp p d hc hd
  obtain ⟨k1,k2,j,τ,k3,k4,k5⟩:=path_back hM d hp hc
  have e:γ.reverse=(γ.drop d).reverse ++ (M.rt p).take d:=by
   rw [<-k2,<-List.reverse_append,List.take_append_drop]
  have split:∀ x y1,Der M γ.reverse x->Der M ((M.rt p).drop d) y1->∃ y z,x=y ++ z/\Der M (γ.drop d).reverse y/\Der M (M.rt p) (z ++ y1):=fun x y1 hx h1=>by
   rw [e] at hx
   obtain ⟨y,z,rfl,h2,h3⟩:=hx.cut
   refine ⟨y,z,rfl,h2,?_⟩
   have:=h3.app h1
   rw [List.take_append_drop] at this
   exact this
  by_cases hp1:p=-1
  ·subst hp1
   obtain rfl:=hM.whole j k4
   have e1:γ.drop d=[]:=by
    generalize hz:γ.drop d=δ at k5
    generalize hy:(0 :: τ:List Nat)=υ at k5
    cases k5 with
    | base=>rfl
    | more i' σ' γ' s h' hg =>
     injection hy with e1 _
     exact absurd e1.symm (hM.pos i' s hg)
   refine ⟨[],fun x y1 hx h1=>?_⟩
   obtain ⟨y,z,rfl,h2,h3⟩:=split x y1 hx h1
   rw [e1] at h2
   cases h2
   rw [List.nil_append,List.append_nil]
   exact h3
  ·have hq:M.isP p:=(hM.isp i p d hc).resolve_left hp1
   have hd:0 < d:=hd.resolve_right hp1
   have hlen:(γ.drop d).length < m\/γ.length=0:=by rw [List.length_drop]; omega
   have hlen:(γ.drop d).length < m:=by omega
   have key:∀ q,Beg M j q->∃ y2,∀ x z,Der M (γ.drop d).reverse x->Der M (M.rt q) z->Der M (M.rt (-1)) (x ++ (z ++ y2)):=by
    intro q hq
    induction hq with
    | mk p' d' q hc' hd' hs' hq' =>
     obtain ⟨y,hy⟩:=live_row (p:=p') hL ((M.rt p').drop (d' + 1)) (fun s hs=>List.mem_of_mem_drop hs)
     have e2:=drop_get hs'
     obtain ⟨y2,hy2⟩:=ih _ hlen (Nat.le_refl _) k5 hc' hd'
     refine ⟨y ++ y2,fun x z hx hz=>?_⟩
     have:=hy2 x (z ++ y) hx (by rw [e2]; exact .sort q _ z y hq' hz hy)
     rw [List.append_assoc] at this
     exact this
    | more p' q hp' hs' hq' ihq =>
     obtain ⟨y2,hy2⟩:=ihq
     obtain ⟨y,hy⟩:=live_row (p:=p') hL ((M.rt p').drop (0 + 1)) (fun s hs=>List.mem_of_mem_drop hs)
     refine ⟨y ++ y2,fun x z hx hz=>?_⟩
     have e2:=drop_get hs'
     rw [List.drop_zero] at e2
     have:=hy2 x (z ++ y) hx (by rw [e2]; exact .sort q _ z y hq' hz hy)
     rw [List.append_assoc] at this
     exact this
   obtain ⟨y2,hy2⟩:=key p (hM.begun j p k4 hq)
   refine ⟨y2,fun x y1 hx h1=>?_⟩
   obtain ⟨y,z,rfl,h2,h3⟩:=split x y1 hx h1
   have:=hy2 y (z ++ y1) h2 h3
   simpa [List.append_assoc] using this
inductive Runs (M:Mach) (inT:Int->Prop):List Nat->List Int->Bool->List Int->Prop
 | bad (σ:List Nat) (t:Int) (w:List Int) (h:¬ inT t):Runs M inT σ (t :: w) false (t :: w)
 | acc (i:Nat) (σ:List Nat) (w:List Int) (hi:∀ t ∈ w.head?,inT t) (h:M.act i (hd w)=.acc):Runs M inT (i :: σ) w true w
 | wrong (i:Nat) (σ:List Nat) (w:List Int) (hi:∀ t ∈ w.head?,inT t) (h:M.act i (hd w)=.wrong):Runs M inT (i :: σ) w false w
 | shift (i j:Nat) (σ:List Nat) (t:Int) (w:List Int) (b:Bool) (r:List Int) (hi:inT t) (h:M.act i t=.shift j) (hr:Runs M inT (j :: i :: σ) w b r):Runs M inT (i :: σ) (t :: w) b r
 | red (σ τ:List Nat) (w:List Int) (b:Bool) (r:List Int) (hi:∀ t ∈ w.head?,inT t) (h:LR.red M (hd w) σ=some τ) (hr:Runs M inT τ w b r):Runs M inT σ w b r
variable {inT:Int->Prop}
theorem red_act {i:Nat} {σ τ:List Nat} (h:red M t (i :: σ)=some τ):∃ p,M.act i t=.red p:=by
 cases ha:M.act i t with
 | wrong=>simp only [red,ha] at h; cases h
 | shift j=>simp only [red,ha] at h; cases h
 | acc=>simp only [red,ha] at h; cases h
 | red p=>exact ⟨p,rfl⟩
theorem Runs.one {σ:List Nat} {w:List Int} {b:Bool} {r:List Int} (h:Runs M inT σ w b r):∀ {b':Bool} {r':List Int},Runs M inT σ w b' r'->b=b'/\r=r':=by
 induction h with
 | bad σ t w h =>
  intro b' r' k
  cases k with
  | bad=>exact ⟨rfl,rfl⟩
  | acc i σ _ hi=>exact absurd (hi t rfl) h
  | wrong i σ _ hi=>exact absurd (hi t rfl) h
  | shift i j σ t w b r hi=>exact absurd hi h
  | red σ τ w b r hi=>exact absurd (hi t rfl) h
 | acc i σ w hi h =>
  intro b' r' k
  cases k with
  | bad _ t w h'=>exact absurd (hi t rfl) h'
  | acc=>exact ⟨rfl,rfl⟩
  | wrong _ _ _ _ h'=>rw [h] at h'; cases h'
  | shift _ j _ t w b r _ h'=>rw [show hd (t :: w)=t from rfl] at h; rw [h] at h'; cases h'
  | red _ τ w b r _ h'=>obtain ⟨p,e⟩:=red_act h'; rw [h] at e; cases e
 | wrong i σ w hi h =>
  intro b' r' k
  cases k with
  | bad _ t w h'=>exact absurd (hi t rfl) h'
  | acc _ _ _ _ h'=>rw [h] at h'; cases h'
  | wrong=>exact ⟨rfl,rfl⟩
  | shift _ j _ t w b r _ h'=>rw [show hd (t :: w)=t from rfl] at h; rw [h] at h'; cases h'
  | red _ τ w b r _ h'=>obtain ⟨p,e⟩:=red_act h'; rw [h] at e; cases e
 | shift i j σ t w b r hi h hr ih =>
  intro b' r' k
  cases k with
  | bad _ t w h'=>exact absurd hi h'
  | acc _ _ _ _ h'=>rw [show hd (t :: w)=t from rfl] at h'; rw [h] at h'; cases h'
  | wrong _ _ _ _ h'=>rw [show hd (t :: w)=t from rfl] at h'; rw [h] at h'; cases h'
  | shift _ j' _ _ _ _ _ _ h' k=>rw [h] at h'; cases h'; exact ih k
  | red _ τ w b r _ h'=>obtain ⟨p,e⟩:=red_act h'; rw [show hd (t :: w)=t from rfl,h] at e; cases e
 | red σ τ w b r hi h hr ih =>
  intro b' r' k
  cases k with
  | bad _ t w h'=>exact absurd (hi t rfl) h'
  | acc _ _ _ _ h'=>obtain ⟨p,e⟩:=red_act h; rw [e] at h'; cases h'
  | wrong _ _ _ _ h'=>obtain ⟨p,e⟩:=red_act h; rw [e] at h'; cases h'
  | shift _ j _ t w b r _ h'=>obtain ⟨p,e⟩:=red_act h; rw [show hd (t :: w)=t from rfl,h'] at e; cases e
  | red _ τ' w b r _ h' k=>rw [h] at h'; cases h'; exact ih k
theorem Runs.left {σ:List Nat} {w:List Int} {b:Bool} {r:List Int} (h:Runs M inT σ w b r):r <:+ w:=by
 induction h with
 | bad=>exact List.suffix_refl _
 | acc=>exact List.suffix_refl _
 | wrong=>exact List.suffix_refl _
 | shift i j σ t w b r _ _ _ ih=>exact ih.trans (List.suffix_cons _ _)
 | red _ _ _ _ _ _ _ _ ih=>exact ih
theorem runs_all (hM:Ok M) (hW:∀ i σ γ,Path M (i :: σ) γ->True):∀ (w:List Int) {σ:List Nat} {γ:List Int},Path M σ γ->∃ b r,Runs M inT σ w b r:=by
 intro w
 induction w with
 | nil =>
  intro σ γ h
  have hf:=fin_all (t:=63) hM h
  induction hf generalizing γ with
  | stop σ hs =>
   cases σ with
   | nil=>cases h
   | cons i σ =>
    cases ha:M.act i 63 with
    | wrong=>exact ⟨_,_,.wrong i σ [] (fun t ht=>by cases ht) ha⟩
    | acc=>exact ⟨_,_,.acc i σ [] (fun t ht=>by cases ht) ha⟩
    | shift j=>exact absurd rfl (hM.r_shift i 63 j ha).2.1
    | red p =>
     obtain ⟨hp,hl⟩:=hM.r_red i 63 p ha
     obtain ⟨_,_,j,υ,k3,_⟩:=path_back hM _ h (hl.c hM)
     simp only [red,ha,k3] at hs
     cases hs
  | go σ τ hs _ ih =>
   obtain ⟨p,i,j,υ,k1,k2,k3,k4,k5,k6,k7,k8,k9,k10⟩:=path_red hM h hs
   obtain ⟨b,r,hr⟩:=ih (γ:=M.srt p :: γ.drop (M.rt p).length) (by rw [k10]; exact .more j υ _ _ k9 (hM.want j p k8 k4))
   exact ⟨b,r,.red σ τ [] b r (fun t ht=>by cases ht) hs hr⟩
 | cons t w ihw =>
  intro σ γ h
  by_cases hi:inT t
  ·have hi':∀ t' ∈ (t :: w).head?,inT t':=fun t' ht=>by rw [<-Option.some.inj ht]; exact hi
   have hf:=fin_all (t:=t) hM h
   induction hf generalizing γ with
   | stop σ hs =>
    cases σ with
    | nil=>cases h
    | cons i σ =>
     cases ha:M.act i t with
     | wrong=>exact ⟨_,_,.wrong i σ _ hi' ha⟩
     | acc=>exact ⟨_,_,.acc i σ _ hi' ha⟩
     | shift j =>
      obtain ⟨_,_,h2,rfl⟩:=hM.r_shift i t j ha
      obtain ⟨b,r,hr⟩:=ihw (.more i σ γ t h h2)
      exact ⟨b,r,.shift i _ σ t w b r hi ha hr⟩
     | red p =>
      obtain ⟨hp,hl⟩:=hM.r_red i t p ha
      obtain ⟨_,_,j,υ,k3,_⟩:=path_back hM _ h (hl.c hM)
      simp only [red,ha,k3] at hs
      cases hs
   | go σ τ hs _ ih =>
    obtain ⟨p,i,j,υ,k1,k2,k3,k4,k5,k6,k7,k8,k9,k10⟩:=path_red hM h hs
    obtain ⟨b,r,hr⟩:=ih (γ:=M.srt p :: γ.drop (M.rt p).length) (by rw [k10]; exact .more j υ _ _ k9 (hM.want j p k8 k4))
    exact ⟨b,r,.red σ τ _ b r hi' hs hr⟩
  ·exact ⟨_,_,.bad σ t w hi⟩
theorem Runs.longer {σ:List Nat} {w:List Int} {b:Bool} {r:List Int} (h:Runs M inT σ w b r) (more:List Int):(r ≠ []->Runs M inT σ (w ++ more) b (r ++ more))/\(r=[]->∀ b' r',Runs M inT σ (w ++ more) b' r'->r'.length<=more.length):=by
 induction h with
 | bad σ t w h=>exact ⟨fun _=>.bad σ t _ h,fun e=>by cases e⟩
 | acc i σ w hi h =>
  cases w with
  | nil=>exact ⟨fun e=>absurd rfl e,fun _ b' r' k=>k.left.length_le⟩
  | cons t w=>exact ⟨fun _=>.acc i σ _ hi h,fun e=>by cases e⟩
 | wrong i σ w hi h =>
  cases w with
  | nil=>exact ⟨fun e=>absurd rfl e,fun _ b' r' k=>k.left.length_le⟩
  | cons t w=>exact ⟨fun _=>.wrong i σ _ hi h,fun e=>by cases e⟩
 | shift i j σ t w b r hi h hr ih =>
  refine ⟨fun e=>.shift i j σ t _ b _ hi h (ih.1 e),fun e b' r' k=>?_⟩
  refine ih.2 e b' r' ?_
  rw [List.cons_append] at k
  cases k with
  | bad _ t w h'=>exact absurd hi h'
  | acc _ _ _ _ h'=>rw [show hd (t :: (w ++ more))=t from rfl] at h'; rw [h] at h'; cases h'
  | wrong _ _ _ _ h'=>rw [show hd (t :: (w ++ more))=t from rfl] at h'; rw [h] at h'; cases h'
  | shift _ j' _ _ _ _ _ _ h' k=>rw [h] at h'; cases h'; exact k
  | red _ τ w b r _ h'=>obtain ⟨p,e⟩:=red_act h'; rw [show ∀ x,hd (t :: x)=t from fun _=>rfl,h] at e; cases e
 | red σ τ w b r hi h hr ih =>
  cases w with
  | nil =>
   have e:=hr.left
   have e:r=[]:=List.eq_nil_of_suffix_nil e
   exact ⟨fun e'=>absurd e e',fun _ b' r' k=>k.left.length_le⟩
  | cons t w =>
   refine ⟨fun e=>.red σ τ _ b _ hi h (ih.1 e),fun e b' r' k=>ih.2 e b' r' ?_⟩
   rw [List.cons_append] at k ⊢
   have hi:inT t:=hi t rfl
   have h:LR.red M t σ=some τ:=h
   cases k with
   | bad _ t w h'=>exact absurd hi h'
   | acc _ _ _ _ h'=>obtain ⟨p,e⟩:=red_act h; rw [show ∀ x,hd (t :: x)=t from fun _=>rfl,e] at h'; cases h'
   | wrong _ _ _ _ h'=>obtain ⟨p,e⟩:=red_act h; rw [show ∀ x,hd (t :: x)=t from fun _=>rfl,e] at h'; cases h'
   | shift _ j _ t w b r _ h'=>obtain ⟨p,e⟩:=red_act h; rw [h'] at e; cases e
   | red _ τ' w b r _ h' k=>rw [show ∀ x,hd (t :: x)=t from fun _=>rfl,h] at h'; cases h'; exact k
theorem Go.runs {σ τ:List Nat} {w v:List Int} (h:Go M σ w τ v) (hi:∀ t ∈ w,inT t) {b:Bool} {r:List Int} (k:Runs M inT τ v b r):Runs M inT σ w b r:=by
 induction h with
 | refl=>exact k
 | red σ τ υ w v h _ ih=>exact .red σ τ w b r (fun t ht=>hi t (List.mem_of_mem_head? ht)) h (ih hi k)
 | shift i j σ υ t w v h _ ih=>exact .shift i j σ t w b r (hi t List.mem_cons_self) h (ih (fun t ht=>hi t (List.mem_cons_of_mem _ ht)) k)
theorem der_runs (hM:Ok M) {l:List Int} (h:Der M (M.rt (-1)) l) (hi:∀ t ∈ l,inT t):Runs M inT [0] l true []:=by
 have k:=der_go hM h (i:=0) [] (p:=-1) (d:=0) [] rfl .start
 rw [List.append_nil] at k
 obtain ⟨s,hs⟩:∃ s,M.rt (-1)=[s]:=List.length_eq_one_iff.1 hM.rt1
 rw [hs,ext_cons,ext_nil] at k
 have h1:Lk M (M.to 0 s) (-1) (0 + 1) 63:=.goto 0 (-1) 0 s 63 .start hM.start (by rw [hs]; rfl)
 exact k.runs hi (.acc _ _ [] (fun t ht=>by cases ht) (hM.a_acc _ _ h1))
theorem Runs.go {σ:List Nat} {w:List Int} {b:Bool} {r:List Int} (h:Runs M inT σ w b r):∃ τ,Go M σ w τ r/\((∃ t v,r=t :: v/\¬ inT t/\b=false)\/(∃ i υ,τ=i :: υ/\(∀ t ∈ r.head?,inT t)/\M.act i (hd r)=(if b=true then .acc else .wrong))):=by
 induction h with
 | bad σ t w h=>exact ⟨σ,.refl _ _,.inl ⟨t,w,rfl,h,rfl⟩⟩
 | acc i σ w hi h=>exact ⟨_,.refl _ _,.inr ⟨i,σ,rfl,hi,h⟩⟩
 | wrong i σ w hi h=>exact ⟨_,.refl _ _,.inr ⟨i,σ,rfl,hi,h⟩⟩
 | shift i j σ t w b r hi h hr ih=>obtain ⟨τ,h1,h2⟩:=ih; exact ⟨τ,.shift i j σ τ t w r h h1,h2⟩
 | red σ τ w b r hi h hr ih=>obtain ⟨υ,h1,h2⟩:=ih; exact ⟨υ,.red σ τ υ w r h h1,h2⟩
theorem runs_der (hM:Ok M) (hT:¬ inT 63) {l r:List Int} (h:Runs M inT [0] l true r):r=[]/\Der M (M.rt (-1)) l:=by
 obtain ⟨τ,h1,⟨t,v,_,_,h2⟩ | ⟨i,υ,rfl,h2,h3⟩⟩:=h.go
 ·cases h2
 ·obtain ⟨δ,y,k1,k2,k3⟩:=go_der hM h1 (γ:=[]) (x:=[]) .base .nil
  obtain ⟨e1,e2⟩:=acc_path hM k1 h3
  have hr:r=[]:=by
   cases r with
   | nil=>rfl
   | cons t r =>
    have e1:t=63:=e1
    exact absurd (h2 t rfl) (by rw [e1]; exact hT)
  subst hr
  rw [List.append_nil] at k3
  rw [e2,List.nil_append,<-k3] at k2
  exact ⟨rfl,k2⟩
theorem runs_begins (hM:Ok M) (hL:Live M) (hne:∀ i σ γ,Path M (i :: σ) γ->∃ p d,M.C i p d/\(0 < d\/p=-1)) {l r:List Int} {b:Bool} (h:Runs M inT [0] l b r):∃ x y,l=x ++ r/\Der M (M.rt (-1)) (x ++ y):=by
 obtain ⟨τ,h1,_⟩:=h.go
 obtain ⟨δ,x,k1,k2,k3⟩:=go_der hM h1 (γ:=[]) (x:=[]) .base .nil
 rw [List.nil_append] at k2
 cases τ with
 | nil=>cases k1
 | cons i τ =>
  obtain ⟨p,d,hc,hd⟩:=hne i τ δ k1
  obtain ⟨y2,hy2⟩:=path_begins hM hL _ (Nat.le_refl _) k1 hc hd
  obtain ⟨y1,hy1⟩:=live_row (p:=p) hL ((M.rt p).drop d) (fun s hs=>List.mem_of_mem_drop hs)
  exact ⟨x,y1 ++ y2,k3,hy2 x y1 k2 hy1⟩
theorem runs_no (hM:Ok M) (hT:¬ inT 63) {x r:List Int} {t:Int} (h:Runs M inT [0] (x ++ t :: r) false (t :: r)) (y:List Int) (hy:∀ s ∈ x ++ t :: y,inT s):¬ Der M (M.rt (-1)) (x ++ t :: y):=fun hder=>by
 have h1:=der_runs (inT:=inT) hM hder hy
 -- both runs come to the same place
 have key:∀ {σ:List Nat} {w:List Int} {b:Bool} {q:List Int},Runs M inT σ w b q->∀ x,w=x ++ t :: r->q=t :: r->b=false->inT t->Runs M inT σ (x ++ t :: y) false (t :: y):=by
  intro σ w b q h
  induction h with
  | bad σ t' w hb =>
   intro x e1 e2 _ hi
   injection e2 with e3 e4
   subst e3
   exact absurd hi hb
  | acc=>intro _ _ _ e; cases e
  | wrong i σ w hi h =>
   intro x e1 e2 _ ht
   subst e2
   have:x=[]:=by
    have:=congrArg List.length e1
    rw [List.length_append] at this
    exact List.eq_nil_of_length_eq_zero (by omega)
   subst this
   exact .wrong i σ _ (fun s hs=>by rw [<-Option.some.inj hs]; exact ht) h
  | shift i j σ t' w b q hi h hr ih =>
   intro x e1 e2 e3 ht
   cases x with
   | nil =>
    exfalso
    injection e1 with _ e5
    have:=hr.left.length_le
    rw [e2,e5,List.length_cons] at this
    omega
   | cons a x =>
    injection e1 with e4 e5
    subst e4
    exact .shift i j σ _ _ _ _ hi h (ih x e5 e2 e3 ht)
  | red σ τ w b q hi h hr ih =>
   intro x e1 e2 e3 ht
   have hh:hd w=hd (x ++ t :: y)/\∀ s ∈ (x ++ t :: y).head?,inT s:=by
    rw [e1] at hi ⊢
    cases x with
    | nil=>exact ⟨rfl,hi⟩
    | cons a x=>exact ⟨rfl,hi⟩
   exact .red σ τ _ _ _ hh.2 (by rw [<-hh.1]; exact h) (ih x e1 e2 e3 ht)
 have h2:=key h x rfl rfl rfl (hy t (List.mem_append_right _ List.mem_cons_self))
 have:=(h1.one h2).1
 cases this
end LR
end Go.Proofs.YticmnfmijdgmbaaGreatDoor
