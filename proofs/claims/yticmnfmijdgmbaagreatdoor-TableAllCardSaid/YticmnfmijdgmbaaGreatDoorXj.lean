import Derived.Test.YticmnfmijdgmbaaGreatDoorXh
set_option linter.all false
set_option maxRecDepth 100000
set_option maxHeartbeats 8000000
namespace Go.Proofs.YticmnfmijdgmbaaGreatDoor
open Go Go.RowKit Go.Lib
open aO (It aP)
open aJ (u64)
def CloseP (L:List It)(w:World)(e:Ending)(w':World):Prop:=∃ g c,e=.returned (.slice (some ⟨g,0,none⟩) L.length c)/\je w' g L/\w.heap.size<=g/\g<w'.heap.size/\aj w w'
theorem Ak {G:GD}{gv v:Value}{w:World}{l:List It}(h:fZ w gv G)(hV:aB G=true)(hi:aS w v l)(hl:l.length<=100000) :
  Calls Tryz.prog 53 #[gv,v] w (CloseP (aP G l) w):=by
 have HGr:=hid h;obtain⟨vo,vc,rfl,hvn⟩:=hi.len;obtain⟨tv,ov,sv,pv,tf,rv,h⟩:=h;obtain⟨W1,B,hW1,hB,c0,c1,c2,c3,c4,hG,hb,hsz⟩:=gU h;have hgv:=h.eq;subst hgv hB;have e1:=hW1.symm;have HC:=hid (And.intro c0 (And.intro c1 (And.intro c2 (And.intro c3 c4))));have HB1:=hid hb;have HI:=hid hi;have HV:=hid hV;have KV:=hid (mO hG);rw[hV]at KV;clear h hG hW1 hb hi hV;go_enter Tryz.func53,Tryz.ntmps53;go_wp2_with fail;refine KV.o.mono ?_;rintro e w2 ⟨rfl,hb2⟩;have c0:=cell_below hb2 HC.o.1;have c1:=cell_below hb2 HC.o.2.1;have c2:=cell_below hb2 HC.o.2.2.1;have c3:=cell_below hb2 HC.o.2.2.2.1;have c4:=cell_below hb2 HC.o.2.2.2.2;have HB2:=fJ HB1 hb2;clear hb2 KV e1;have KC:=hid (yC (HGr.o.below HB2.o) HV.o _ l (HI.o.below HB2.o) hl);go_wp2_with fail;refine KC.o.mono ?_;rintro e w3 ⟨g,c,L,h1,rfl,h2,h3,h4,h5⟩;obtain rfl:L=aP G l:=aO.vN h1;have HR:=hid h2;have HG2:=hid (And.intro (eX HB2.o.size h3) h4);have HB3:=fJ HB2 h5;generalize aP G l=L at *;clear h1 h2 h3 h4 h5 KC;go_wp2_with fail;go_ret;exact⟨g,c,rfl,HR.o,HG2.o.1,HG2.o.2,HB3.o⟩
def rcells (l:List (Value×Value)):List Value:=l.flatMap fun p=>[p.1,p.2]
theorem lh (p:Value×Value)(l:List (Value×Value)):rcells (p::l)=p.1::p.2::rcells l:=rfl
theorem jg:∀ {l:List (Value×Value)}{i:Nat}{p:Value×Value},l[i]?=some p->(rcells l)[i*2]?=some p.1/\(rcells l)[i*2+1]?=some p.2
 | a::l,0,p,h=>by
  obtain rfl:a=p:=by simpa using h
  exact⟨rfl,rfl⟩
 | a::l,i+1,p,h=>by
  have ih:=jg (l:=l) (i:=i) (p:=p) (by simpa using h);rw[lh,show(i+1)*2=i*2+2 by omega];exact ih
theorem nN:∀ {l:List (Value×Value)}{i:Nat}{p:Value×Value}(v:Value),l[i]?=some p->(rcells l).set (i*2) v=rcells (l.set i (v,p.2))
 | a::l,0,p,v,h=>by
  obtain rfl:a=p:=by simpa using h
  rfl
 | a::l,i+1,p,v,h=>by
  have ih:=nN (l:=l) (i:=i) (p:=p) v (by simpa using h);rw[lh,show(i+1)*2=i*2+1+1 by omega];show a.1::a.2::(rcells l).set (i*2) v=a.1::a.2::rcells (l.set i (v,p.2));rw[ih]
theorem qx:∀ {l:List (Value×Value)}{i:Nat}{p:Value×Value}(v:Value),l[i]?=some p->(rcells l).set (i*2+1) v=rcells (l.set i (p.1,v))
 | a::l,0,p,v,h=>by
  obtain rfl:a=p:=by simpa using h
  rfl
 | a::l,i+1,p,v,h=>by
  have ih:=qx (l:=l) (i:=i) (p:=p) v (by simpa using h);rw[lh,show(i+1)*2+1=i*2+1+1+1 by omega];show a.1::a.2::(rcells l).set (i*2+1) v=a.1::a.2::rcells (l.set i (p.1,v));rw[ih]
theorem info48:(Tryz.prog.info? 48).map (fun i=>(i.zero,i.size,i.bytes))=some (some (.agg #[.slice none 0 0,.slice none 0 0]),2,48):=by kernel_rfl
theorem KQ:(Tryz.prog.info? 69).map (fun i=>(i.zero,i.size,i.bytes))=some (some (.int .u64 0),1,8):=by kernel_rfl
theorem Io (n:Nat)(hn:n<=1000000)(w:World):(Instr.makeSlice 30 (.int .i64 (n:Int)) (.int .i64 (n:Int))).run Tryz.prog w=.ok (.slice (some ⟨w.heap.size,0,none⟩) n n) (w.alloc (.cells (rcells (List.replicate n (.slice none 0 0,.slice none 0 0))).toArray 48)):=by
 obtain⟨i0,hi,hz0,hz1,hz2⟩:=info_parts info48;have:=run_makeSlice (P:=Tryz.prog) (w:=w) 30 48 i0 (.agg #[.slice none 0 0,.slice none 0 0]) Tryz.underlying30 hi hz0 .i64 .i64 (n:Int) (n:Int) (by omega) (by omega) (by rw[hz1];omega) (by rw[hz2];omega) (by omega);rw[this,hz1];have hl:∀ n,(rcells (List.replicate n ((Value.slice none 0 0,Value.slice none 0 0):Value×Value)))=List.replicate (n*2) (.slice none 0 0):=fun n=>by
  induction n with
  | zero=>rfl
  | succ n ih=>rw[List.replicate_succ,lh,ih,show(n+1)*2=n*2+1+1 by omega,List.replicate_succ,List.replicate_succ]
 have e:madeCells (Value.agg #[.slice none 0 0,.slice none 0 0]).cells ((n:Int).toNat*2)=(rcells (List.replicate n (.slice none 0 0,.slice none 0 0))).toArray:=by
  rw[hl,Int.toNat_natCast];refine Array.ext (by simp[madeCells]) fun i h1 h2=>?_;simp[madeCells,Value.cells];rcases(show i % 2=0\/i % 2=1 by omega)with h3 | h3<;>simp[h3]
 rw[e,Int.toNat_natCast]
section
variable {B:Nat}{W w w':World}{l m:List Item}
theorem zQ (h:az B W w (l++m)){k:Nat}{F:List (Nat×List It)}(hk:m[k]?=some (dY F)){g:Nat}{L:List It}(hb:aj w w')(hr:je w' g L)(h1:w.heap.size<=g)(h2:g<w'.heap.size):az B W w' (l++m.set k (dY (F++[(g,L)]))):=by
 have hkk:(l++m)[l.length+k]?=some (dY F):=by rw[List.getElem?_append_right (Nat.le_add_right _ _),Nat.add_sub_cancel_left];exact hk
 have:=h.upd (l.length+k) hkk (dY (F++[(g,L)])) ((Touch.below hb).mono (by simp)) (fun q hq=>by
  rcases List.mem_append.1 hq with e | e
  ·exact((h.below hb).ok _ _ hkk) q e
  ·obtain rfl:q=(g,L):=by simpa using e
   exact hr) (fun b hbm=>by
  obtain⟨q,hq,rfl⟩:=List.mem_map.1 hbm;rcases List.mem_append.1 hq with e | e
  ·have hm:q.1∈F.map (·.1):=List.mem_map.2 ⟨q,e,rfl⟩;have h5:=(h.lt _ _ hkk q.1 hm).2;have h6:=hb.size;exact⟨.inl hm,by omega⟩
  ·obtain rfl:q=(g,L):=by simpa using e
   exact⟨.inr h1,h2⟩)
 rw[List.set_append_right _ _ (Nat.le_add_right _ _),Nat.add_sub_cancel_left]at this;exact this
end
open aO (It ag aN aP)
open aJ (u64 jd Com aZ top E0 F0 fM)
open aJ.cZ (Pl WQ WS dm dJ places bi iI miss Eo)
theorem sF {p:Nat->Prop}(h:∃ k,p k):∃ k,p k/\∀ j,p j->k<=j:=by
 obtain⟨k,hk⟩:=h;induction k using Nat.strongRecOn with
 | ind k ih =>
  by_cases h:∃ j,j<k/\p j
  ·obtain⟨j,hj,hp⟩:=h;exact ih j hj hp
  ·exact⟨k,hk,fun j hj=>by
    by_cases h2:k<=j
    ·exact h2
    ·exact absurd ⟨j,by omega,hj⟩ h⟩
open Classical in
noncomputable def minOf (p:Nat->Prop):Nat:=if h:∃ k,p k then Classical.choose (sF h)else 0
theorem sG {p:Nat->Prop}(h:∃ k,p k):p (minOf p):=by
 unfold minOf;rw[dif_pos h];exact(Classical.choose_spec (sF h)).1
theorem oI {p:Nat->Prop}{k:Nat}(h:p k):minOf p<=k:=by
 unfold minOf;rw[dif_pos ⟨k,h⟩];exact(Classical.choose_spec (sF ⟨k,h⟩)).2 k h
theorem vY (c:aJ.cZ.Cx)(j:Nat):places c (j+1)=places c j++(c.C j).map fun x=>(j,x):=by
 unfold places;rw[List.range_succ,List.flatMap_append];simp
theorem xO {c:aJ.cZ.Cx}{m:Nat}(h:∀ i,(c.C i).length<=m):∀ n,(places c n).length<=n*m
 | 0=>by show(0:Nat)<=_;omega
 | n+1=>by
  rw[vY,List.length_append,List.length_map,Nat.succ_mul];have:=xO h n;have:=h n;omega
theorem qL {G:GD}(hV:aB G=true)(n:Nat)(E:List Bool)(F:List Nat)(i:Nat):((bi G n E F).C i).length<=1573:=by
 show(aP G ((ag G n).ker.getD i [])).length<=1573;rw[<-mJ hV];exact aO.kP G _
def yK (w:World)(v:Value)(us:List Nat):Prop:=eU v us.length (fun i b off=>w.cell? ⟨b,off+i,none⟩=some (u64 (us.getD i 0)))
def qO (w:World)(v:Value)(n:Nat)(C:Nat->List It)(A:Pl->Nat):Prop:=
 eU v n (fun i b off=>∃ iv av,w.cell? ⟨b,off+i*2,none⟩=some iv/\w.cell? ⟨b,off+i*2+1,none⟩=some av/\aS w iv (C i)/\yK w av ((C i).map fun x=>A (i,x)))
theorem qO.below {w w':World}{v:Value}{n:Nat}{C:Nat->List It}{A:Pl->Nat}(h:qO w v n C A)(hb:aj w w'):qO w' v n C A:=
 eU.mono h fun i b off ⟨iv,av,h1,h2,h3,h4⟩=>⟨iv,av,cell_below hb h1,cell_below hb h2,h3.below hb,eU.mono h4 fun _ _ _ h=>cell_below hb h⟩
def RowsP (W:World)(G:GD)(n:Nat)(e:Ending)(w':World):Prop:=
 aj W w'/\∃ v A,e=.returned v/\dm (dJ (bi G n (E0 G) (F0 G))) (places (bi G n (E0 G) (F0 G)) n) (0,(-1,0)) (aZ 63) A/\qO w' v n (bi G n (E0 G) (F0 G)).C A
def dP (B bG bT bl:Nat)(gc:Array Value)(kv nv:Value)(l:List (Value×Value))(F:List (Nat×List It))(AR:List (Value×List Value)):List Item:=
 ae bG (.cells gc 27 (0,0))::ae bT (.cells #[kv,nv] 55 (0,0))::ae bl (.cells (rcells l).toArray 48 (0,0))::dY F::AR.map fun r=>aA B 1 r.1 r.2.length r.2
theorem oU (B bG bT bl:Nat)(gc:Array Value)(kv nv:Value)(l:List (Value×Value))(F:List (Nat×List It))(AR:List (Value×List Value))(v:Value)(xs:List Value) :
  dP B bG bT bl gc kv nv l F (AR++[(v,xs)])=dP B bG bT bl gc kv nv l F AR++[aA B 1 v xs.length xs]:=by
 unfold dP;rw[List.map_append];rfl
theorem BA {B sz n k:Nat}{W w w':World}{l m:List Item}{v v':Value}{xs ys:List Value}(h:az B W w (l++aA B sz v n xs::m))(hown:aI w' B sz v' k ys)(hg:w.grownBy w' v.ownBlock)(hat:v'.ownBlock=v.ownBlock\/v'.ownBlock=some w.heap.size):az B W w' (l++aA B sz v' k ys::m):=by
 have:=h.bU l.length (by rw[List.getElem?_append_right (bJ _),Nat.sub_self];rfl) hown hg hat;rw[List.set_append_right _ _ (bJ _),Nat.sub_self]at this;exact this
theorem iw {B:Nat}{W w:World}{l:List Item}(h:az B W w l):az B W w (l++[aA B 1 (.slice none 0 0) 0 []]):=
 h.add (aA B 1 (.slice none 0 0) 0 []) (eH _ _) (aI.nil _ _ _) (fun c hc=>by
  have:c∈(Value.slice none 0 0).ownBlock.toList:=hc;simp[Value.ownBlock]at this)
theorem Cc {w:World}{B n:Nat}{v:Value}{us:List Nat}(h:aI w B 1 v n (us.map u64))(hn:n=us.length):yK w v us:=by
 subst hn;obtain⟨hl,⟨rfl,h0⟩ | ⟨g,off,cap,rfl,_,_,h1,h2,h3,_⟩⟩:=h
 ·exact⟨none,0,by rw[h0],by omega,fun h=>absurd h (by omega)⟩
 ·refine⟨_,_,rfl,by unfold maxLen at h2;omega,fun _=>⟨g,off,rfl,fun i hi=>h3 i _ ?_⟩⟩;rw[List.getElem?_map,dH hi,dL,dH hi];rfl
structure Row1 (C:Nat->List It) (n j:Nat) (F:List (Nat×List It)) (l:List (Value×Value)):Prop where
 len:l.length=n
 at_:∀ i,i<j->∃ g c,l[i]?=some (.slice (some ⟨g,0,none⟩) (C i).length c,.slice none 0 0)/\(g,C i)∈F
 more:∀ i,j<=i->i<n->l[i]?=some (.slice none 0 0,.slice none 0 0)
theorem Row1.start (C:Nat->List It)(n:Nat):Row1 C n 0 [] (List.replicate n (.slice none 0 0,.slice none 0 0)):=
 ⟨List.length_replicate,fun i hi=>absurd hi (Nat.not_lt_zero i),fun i _ hi=>by rw[List.getElem?_replicate,if_pos hi]⟩
theorem Row1.put {C:Nat->List It}{n j:Nat}{F:List (Nat×List It)}{l:List (Value×Value)}(h:Row1 C n j F l)(hj:j<n)(g c:Nat):Row1 C n (j+1) (F++[(g,C j)]) (l.set j (.slice (some ⟨g,0,none⟩) (C j).length c,.slice none 0 0)) where
 len:=by rw[List.length_set];exact h.len
 at_ i hi:=by
  by_cases e:i=j
  ·subst e;exact⟨g,c,List.getElem?_set_self (by rw[h.len];exact hj),by simp⟩
  ·obtain⟨g',c',h1,h2⟩:=h.at_ i (by omega);exact⟨g',c',by rw[List.getElem?_set_ne (fun e2=>e e2.symm)];exact h1,List.mem_append_left _ h2⟩
 more i h1 h2:=by rw[List.getElem?_set_ne (by omega)];exact h.more i (by omega) h2
structure wR (C:Nat->List It) (A:Pl->Nat) (n j:Nat) (F:List (Nat×List It)) (l:List (Value×Value)) (AR:List (Value×List Value)):Prop where
 len:l.length=n
 at_:∀ i,i<n->∃ g c,l[i]?=some (.slice (some ⟨g,0,none⟩) (C i).length c,(AR.map (·.1)).getD i (.slice none 0 0))/\(g,C i)∈F
 num:AR.length=j
theorem wR.start {C:Nat->List It}{A:Pl->Nat}{n:Nat}{F:List (Nat×List It)}{l:List (Value×Value)}(h:Row1 C n n F l):wR C A n 0 F l []:=⟨h.len,fun i hi=>by
 obtain⟨g,c,h1,h2⟩:=h.at_ i hi;exact⟨g,c,h1,h2⟩,rfl⟩
theorem wR.qM {C:Nat->List It}{A:Pl->Nat}{n j:Nat}{F:List (Nat×List It)}{l:List (Value×Value)}{AR:List (Value×List Value)}(h:wR C A n j F l AR):wR C A n (j+1) F l (AR++[(.slice none 0 0,[])]):=⟨h.len,fun i hi=>by
 obtain⟨g,c,h1,h2⟩:=h.at_ i hi;refine⟨g,c,?_,h2⟩;rw[h1];congr 2;rw[List.map_append,dL,dL];by_cases e:i<(AR.map (·.1)).length
 ·rw[List.getElem?_append_left e]
 ·rw[List.getElem?_append_right (by omega),List.getElem?_eq_none (by omega)];cases i-(AR.map (·.1)).length with
  | zero=>rfl
  | succ k=>rfl,by rw[List.length_append,h.num];rfl⟩
theorem wR.put {C:Nat->List It}{A:Pl->Nat}{n j:Nat}{F:List (Nat×List It)}{l:List (Value×Value)}{AR:List (Value×List Value)}{v v':Value}{xs xs':List Value}{p:Value×Value}(h:wR C A n (j+1) F l (AR++[(v,xs)]))(hj:l[j]?=some p):wR C A n (j+1) F (l.set j (p.1,v')) (AR++[(v',xs')]):=⟨by rw[List.length_set];exact h.len,fun i hi=>by
 obtain⟨g,c,h1,h2⟩:=h.at_ i hi;have hn:AR.length=j:=by have:=h.num;rw[List.length_append]at this;have e:[(v,xs)].length=1:=rfl;omega
 refine⟨g,c,?_,h2⟩;by_cases e:i=j
 ·subst e;rw[List.getElem?_set_self (List.getElem?_eq_some_iff.1 hj).1];rw[hj]at h1;injection h1 with h1;rw[h1];congr 2;rw[List.map_append,dL,List.getElem?_append_right (by simp[hn])];simp[hn]
 ·rw[List.getElem?_set_ne (fun e2=>e e2.symm),h1];congr 2;rw[List.map_append,List.map_append,dL,dL];by_cases e2:i<(AR.map (·.1)).length
  ·rw[List.getElem?_append_left e2,List.getElem?_append_left e2]
  ·have e3:i-(AR.map (·.1)).length≠0:=by rw[List.length_map]at *;omega
   rw[List.getElem?_append_right (by omega),List.getElem?_append_right (by omega)];cases hk:i-(AR.map (·.1)).length with
   | zero=>exact absurd hk e3
   | succ k=>rfl,by rw[List.length_append];have:=h.num;rw[List.length_append]at this;exact this⟩
def Jh (C:Nat->List It)(A:Pl->Nat)(AR:List (Value×List Value)):Prop:=∀ i r,AR[i]?=some r->r.2=(C i).map fun x=>u64 (A (i,x))
theorem Jh.push {C:Nat->List It}{A:Pl->Nat}{AR:List (Value×List Value)}(h:Jh C A AR){v:Value}{xs:List Value}(e:xs=(C AR.length).map fun x=>u64 (A (AR.length,x))):Jh C A (AR++[(v,xs)]):=fun i r hr=>by
 by_cases hi:i<AR.length
 ·rw[List.getElem?_append_left hi]at hr;exact h i r hr
 ·rw[List.getElem?_append_right (by omega)]at hr;have h0:=(List.getElem?_eq_some_iff.1 hr).1;have hi0:i=AR.length:=by simp at h0;omega
  subst hi0;simp at hr;rw[<-hr];exact e
section
variable {B bS bA bC bG bT bl:Nat}{W w w':World}{G:GD}{gc:List Value}{gk:Array Value}{kv nv:Value}{LA LA':List (Pl×Nat)}{LC:List It}{qv qv':Value}{Q Q':List Pl}{l:List (Value×Value)}{F:List (Nat×List It)}{AR:List (Value×List Value)}
theorem rr_bG (h:az B W w (aC B bS bA bC G gc LA LC qv Q (dP B bG bT bl gk kv nv l F AR))):w.heap[bG]?=some (.cells gk 27 (0,0)):=h.ok 4 _ rfl
theorem rr_bT (h:az B W w (aC B bS bA bC G gc LA LC qv Q (dP B bG bT bl gk kv nv l F AR))):w.heap[bT]?=some (.cells #[kv,nv] 55 (0,0)):=h.ok 5 _ rfl
theorem Gj (h:az B W w (aC B bS bA bC G gc LA LC qv Q (dP B bG bT bl gk kv nv l F AR))):w.heap[bl]?=some (.cells (rcells l).toArray 48 (0,0)):=h.ok 6 _ rfl
theorem JE (h:az B W w (aC B bS bA bC G gc LA LC qv Q (dP B bG bT bl gk kv nv l F AR))):(dY F).ok w:=h.ok 7 _ rfl
theorem Gi (h:az B W w (aC B bS bA bC G gc LA LC qv Q (dP B bG bT bl gk kv nv l F AR))){i:Nat}{p:Value×Value}(hi:l[i]?=some p):w.cell? ⟨bl,i*2,none⟩=some p.1:=by
 rw[ak (Gj h),<-Array.getElem?_toList];exact(jg hi).1
theorem Gh (h:az B W w (aC B bS bA bC G gc LA LC qv Q (dP B bG bT bl gk kv nv l F AR))){i:Nat}{p:Value×Value}(hi:l[i]?=some p):w.cell? ⟨bl,i*2+1,none⟩=some p.2:=by
 rw[ak (Gj h),<-Array.getElem?_toList];exact(jg hi).2
theorem rr_set0 (h:az B W w (aC B bS bA bC G gc LA LC qv Q (dP B bG bT bl gk kv nv l F AR))){i:Nat}{p:Value×Value}(hi:l[i]?=some p)(v:Value):az B W (w.setCell ⟨bl,i*2,none⟩ v) (aC B bS bA bC G gc LA LC qv Q (dP B bG bT bl gk kv nv (l.set i (v,p.2)) F AR)):=by
 have:=iq (k:=i*2) (v:=v) h 6 rfl;rw[List.setIfInBounds_toArray,nN v hi]at this;exact this
theorem rr_set1 (h:az B W w (aC B bS bA bC G gc LA LC qv Q (dP B bG bT bl gk kv nv l F AR))){i:Nat}{p:Value×Value}(hi:l[i]?=some p)(v:Value):az B W (w.setCell ⟨bl,i*2+1,none⟩ v) (aC B bS bA bC G gc LA LC qv Q (dP B bG bT bl gk kv nv (l.set i (p.1,v)) F AR)):=by
 have:=iq (k:=i*2+1) (v:=v) h 6 rfl;rw[List.setIfInBounds_toArray,qx v hi]at this;exact this
theorem rr_froz (h:az B W w (aC B bS bA bC G gc LA LC qv Q (dP B bG bT bl gk kv nv l F AR))){g:Nat}{L:List It}(hb:aj w w')(hr:je w' g L)(h1:w.heap.size<=g)(h2:g<w'.heap.size):az B W w' (aC B bS bA bC G gc LA LC qv Q (dP B bG bT bl gk kv nv l (F++[(g,L)]) AR)):=
 zQ (l:=aC B bS bA bC G gc LA LC qv Q []) (m:=dP B bG bT bl gk kv nv l F AR) (k:=3) h rfl hb hr h1 h2
end
theorem look_of {B bS bA bC bG bT bl n:Nat}{W w:World}{G:GD}{gc:List Value}{gk:Array Value}{kv nv:Value}{LA:List (Pl×Nat)}{LC:List It}{qv:Value}{Q:List Pl}{l:List (Value×Value)}{F:List (Nat×List It)}{AR:List (Value×List Value)}{C:Nat->List It}{A:Pl->Nat}
  (h:az B W w (aC B bS bA bC G gc LA LC qv Q (dP B bG bT bl gk kv nv l F AR))) (h2:wR C A n n F l AR) (h3:Jh C A AR) (hC:∀ i,(C i).length<=1573) (hn:n<=2000):qO w (.slice (some ⟨bl,0,none⟩) n n) n C A:=by
 refine⟨_,_,rfl,by omega,fun _=>⟨bl,0,rfl,fun i hi=>?_⟩⟩;obtain⟨g,c,h4,h5⟩:=h2.at_ i hi;obtain⟨r,hr⟩:∃ r,AR[i]?=some r:=⟨_,dH (by rw[h2.num];exact hi)⟩;have e1:(AR.map (·.1)).getD i (.slice none 0 0)=r.1:=by
  rw[dL,List.getElem?_map,hr];rfl
 rw[e1]at h4;have e2:=h3 i r hr;refine⟨_,_,by rw[Nat.zero_add];exact Gi h h4,by rw[Nat.zero_add];exact Gh h h4,eQ (JE h (g,C i) h5) (by have:=hC i;show(C i).length<=_;omega),?_⟩;have h6:aI w B 1 r.1 r.2.length r.2:=h.ok (8+i) (aA B 1 r.1 r.2.length r.2) (by
  rw[Nat.add_comm 8 i];show(AR.map fun r=>aA B 1 r.1 r.2.length r.2)[i]?=_;rw[List.getElem?_map,hr];rfl)
 refine Cc (B:=B) (n:=r.2.length) ?_ ?_
 ·have e3:((C i).map fun x=>A (i,x)).map u64=r.2:=by rw[e2,List.map_map];rfl
  rw[e3];exact h6
 ·rw[e2];simp
theorem ED {W W1 W2 W3 W4 W5 W6:World}{G:GD}{gk:Array Value}{gc:List Value}{kv nv:Value}{l:List (Value×Value)}{bT bA bC bS bl:Nat}
  (n1:W1.heap[W.heap.size]?=some (.cells gk 27 (0,0))) (h1:aj W W1)
  (eT:W1.heap.size=bT) (n2:W2.heap[bT]?=some (.cells #[kv,nv] 55 (0,0))) (h2:aj W1 W2)
  (eA:W2.heap.size=bA) (n3:bH Tryz.prog 158 W3 bA []) (h3:aj W2 W3)
  (eC:W3.heap.size=bC) (n4:bH Tryz.prog 60 W4 bC []) (h4:aj W3 W4)
  (eS:W4.heap.size=bS) (n5:W5.heap[bS]?=some (.cells (gc++[Value.map (some bA),Value.map (some bC),Value.slice none 0 0]).toArray 156 (0,0))) (h5:aj W4 W5)
  (el:W5.heap.size=bl) (n6:W6.heap[bl]?=some (.cells (rcells l).toArray 48 (0,0))) (h6:aj W5 W6) :
  az W.heap.size W W6 (aC W.heap.size bS bA bC G gc [] [] (.slice none 0 0) [] (dP W.heap.size W.heap.size bT bl gk kv nv l [] [])):=by
 have lt:∀ {W:World}{b:Nat}{o:Obj},W.heap[b]?=some o->b<W.heap.size:=fun h=>(dZ h);have one:∀ {b c:Nat},c∈[b]->c=b:=fun h=>by simpa using h
 have f0:=(az.empty W W.heap.size (bJ _)).add (ae W.heap.size (.cells gk 27 (0,0))) h1 n1 (fun c hc=>by rw[one hc];exact⟨bJ _,lt n1⟩);have f1:=f0.add (ae bT (.cells #[kv,nv] 55 (0,0))) h2 n2 (fun c hc=>by rw[one hc];exact⟨by omega,lt n2⟩);have f2:=f1.add (lI 158 bA []) h3 n3 (fun c hc=>by rw[one hc];exact⟨by omega,n3.lt⟩);have f3:=f2.add (lI 60 bC []) h4 n4 (fun c hc=>by rw[one hc];exact⟨by omega,n4.lt⟩);have f4:=f3.add (ae bS (.cells (gc++[Value.map (some bA),Value.map (some bC),Value.slice none 0 0]).toArray 156 (0,0))) h5 n5 (fun c hc=>by rw[one hc];exact⟨by omega,lt n5⟩);have f5:=f4.add (aA W.heap.size 3 (.slice none 0 0) 0 []) (eH _ _) (aI.nil _ _ _) (fun c hc=>by
  have:c∈(Value.slice none 0 0).ownBlock.toList:=hc;simp[Value.ownBlock]at this)
 have f6:=f5.add (ae bl (.cells (rcells l).toArray 48 (0,0))) h6 n6 (fun c hc=>by rw[one hc];exact⟨by omega,lt n6⟩);have f7:=f6.add (dY []) (eH _ _) (fun q hq=>by cases hq) (fun c hc=>by cases hc);refine f7.pick _ (fun i=>[4,2,3,5,0,1,6,7].getD i 0) (fun i x hx=>?_) (fun i j hi hj e=>?_)
 ·have hi:i<8:=(List.getElem?_eq_some_iff.1 hx).1;have hi2:i=0\/i=1\/i=2\/i=3\/i=4\/i=5\/i=6\/i=7:=by omega
  rcases hi2 with rfl | rfl | rfl | rfl | rfl | rfl | rfl | rfl<;>exact hx
 ·have hi:i<8:=hi;have hj:j<8:=hj;have:∀ i,i<8->∀ j,j<8->[4,2,3,5,0,1,6,7].getD i 0=[4,2,3,5,0,1,6,7].getD j 0->i=j:=by decide
  exact this i hi j hj e
theorem sp_pop {B bS bA bC:Nat}{W w:World}{G:GD}{gc:List Value}{LA:List (Pl×Nat)}{LC:List It}{qv qv':Value}{p:Pl}{Q:List Pl}{rest:List Item}(h:az B W w (aC B bS bA bC G gc LA LC qv (p::Q) rest))(hgl:gc.length=7)(hown:aI w B 3 qv' Q.length (qcells Q))(hat:∀ b,qv'.ownBlock=some b->qv.ownBlock=some b) :
  az B W (w.setCell ⟨bS,9,none⟩ qv') (aC B bS bA bC G gc LA LC qv' Q rest):=by
 have h1:=h.say 3 rfl (aA B 3 qv' Q.length (qcells Q)) hown (fun b hb=>by
  have hb':b∈qv'.ownBlock.toList:=hb;have h2:=hat b (by simpa using hb');show b∈qv.ownBlock.toList;rw[h2];simp)
 exact xB (qv:=qv) (qv':=qv') (Q:=Q) h1 hgl rfl rfl
theorem Jk {ask:aJ.cZ.Ask}{P:List Pl}{b0:Pl}{v0:Nat}{LA':List (Pl×Nat)}{Q Q':List Pl}(h:WQ ask P b0 v0 (dD []) Q)(ht:b0∈P)(hv:v0<top)
  (hc:(fM v0 (dD [] b0)/\LA'=[]/\Q'=Q)\/(¬ fM v0 (dD [] b0)/\Q'=Q++[b0]/\∀ q,dD LA' q=if q=b0 then dD [] b0 ||| v0 else dD [] q)) :
  WQ ask P b0 v0 (dD LA') Q'/\fM v0 (dD LA' b0)/\Q'.length+miss P (dD LA')<=Q.length+64*P.length:=by
 have h0:=aJ.cZ.Il P;have e0:miss P (dD [])=miss P (fun _=>0):=rfl;rcases hc with⟨h1,rfl,rfl⟩ | ⟨h1,rfl,h3⟩
 ·exact⟨h,h1,by omega⟩
 ·have e:=Jp h3;have hlt:=aJ.cZ.Du (P:=P) ht hv h1;rw[e];refine⟨h.qM ht hv,?_,?_⟩
  ·rw[aJ.cZ.kz];exact aJ.fU _ _
  ·rw[List.length_append,List.length_singleton];omega
end Go.Proofs.YticmnfmijdgmbaaGreatDoor
