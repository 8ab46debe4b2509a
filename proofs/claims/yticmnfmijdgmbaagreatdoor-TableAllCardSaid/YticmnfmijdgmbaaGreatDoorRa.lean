import Derived.Test.YticmnfmijdgmbaaGreatDoorRd
set_option linter.all false
set_option maxRecDepth 100000
set_option maxHeartbeats 8000000
namespace Go.Proofs.aO
def yg (a b:It):Bool:=decide (a.1<b.1) || (decide (a.1=b.1) && decide (a.2<b.2))
theorem zL {a b:It} : yg a b=true↔Less a b:=by unfold yg Less;simp
def Ap (O l:List It)(i:Nat)(a:Int):Prop:=
 (a=-1/\∀ x∈l.take i,x∈O)\/∃ (q:Nat) (y:It),a=(q:Int)/\q<i/\l[q]?=some y/\y∉O/\∀ x∈l.take i,x∉O->¬ Less x y
theorem Ap.start (O l:List It):Ap O l 0 (-1):=.inl ⟨rfl,by simp⟩
theorem iC {l:List It}{i:Nat}{x y:It}(hx:l[i]?=some x)(h:y∈l.take (i+1)):y∈l.take i\/y=x:=by
 rw[List.take_add_one,hx]at h;rcases List.mem_append.1 h with h | h
 ·exact .inl h
 ·exact .inr (by simpa using h)
theorem Ap.skip {O l:List It}{i:Nat}{a:Int}{x:It}(h:Ap O l i a)(hx:l[i]?=some x)(hin:x∈O):Ap O l (i+1) a:=by
 rcases h with⟨h1,h2⟩ | ⟨q,y,h1,h2,h3,h4,h5⟩
 ·exact .inl ⟨h1,fun z hz=>by
   rcases iC hx hz with e | e
   ·exact h2 z e
   ·rw[e];exact hin⟩
 ·exact .inr ⟨q,y,h1,by omega,h3,h4,fun z hz hn=>by
   rcases iC hx hz with e | e
   ·exact h5 z e hn
   ·exact absurd (e▸hin) hn⟩
theorem Ap.new {O l:List It}{i:Nat}{x:It}(h:Ap O l i (-1))(hx:l[i]?=some x)(hin:x∉O):Ap O l (i+1) (i:Int):=by
 rcases h with⟨_,h2⟩ | ⟨q,y,h1,_⟩
 ·exact .inr ⟨i,x,rfl,by omega,hx,hin,fun z hz hn=>by
   rcases iC hx hz with e | e
   ·exact absurd (h2 z e) hn
   ·rw[e];exact Less.irrefl⟩
 ·omega
theorem Ap.less {O l:List It}{i q:Nat}{x y:It}(h:Ap O l i (q:Int))(hx:l[i]?=some x)(hin:x∉O)(hy:l[q]?=some y)(hl:Less x y):Ap O l (i+1) (i:Int):=by
 rcases h with⟨h1,_⟩ | ⟨q',y',h1,h2,h3,h4,h5⟩
 ·omega
 ·obtain rfl:q=q':=by omega
  rw[hy]at h3;injection h3 with h3;subst h3;exact .inr ⟨i,x,rfl,by omega,hx,hin,fun z hz hn=>by
   rcases iC hx hz with e | e
   ·exact fun hz2=>h5 z e hn (hz2.trans hl)
   ·rw[e];exact Less.irrefl⟩
theorem Ap.keep {O l:List It}{i q:Nat}{x y:It}(h:Ap O l i (q:Int))(hx:l[i]?=some x)(hy:l[q]?=some y)(hl:¬ Less x y):Ap O l (i+1) (q:Int):=by
 rcases h with⟨h1,_⟩ | ⟨q',y',h1,h2,h3,h4,h5⟩
 ·omega
 ·obtain rfl:q=q':=by omega
  rw[hy]at h3;injection h3 with h3;subst h3;exact .inr ⟨q,y,rfl,by omega,hy,h4,fun z hz hn=>by
   rcases iC hx hz with e | e
   ·exact h5 z e hn
   ·rw[e];exact hl⟩
structure uF (l O:List It) (m:Nat):Prop where
 rise:iQ O
 sub:∀ x∈O,x∈l
 low:∀ x∈l,x∉O->∀ y∈O,Less y x
 left:(l.filter fun x=>decide (x∉O)).length+m<=l.length\/∀ x∈l,x∈O
 len:O.length<=m
theorem uF.start (l:List It):uF l [] 0:=⟨List.Pairwise.nil,by simp,by simp,.inl (by simpa using List.length_filter_le _ _),bJ _⟩
theorem DT {l O:List It}{x:It}(hx:x∈l)(hn:x∉O):(l.filter fun z=>decide (z∉O++[x])).length+1<=(l.filter fun z=>decide (z∉O)).length:=by
 have mono:∀ l:List It,(l.filter fun z=>decide (z∉O++[x])).length<=(l.filter fun z=>decide (z∉O)).length:=fun l=>by
  induction l with
  | nil=>exact bJ _
  | cons a l ih =>
   rw[List.filter_cons,List.filter_cons];by_cases h1:a∉O++[x]
   ·have h2:a∉O:=fun h=>h1 (List.mem_append_left _ h);rw[if_pos (by simpa using h1),if_pos (by simpa using h2)];simpa using ih
   ·rw[if_neg (by simpa using h1)];split
    ·simp only[List.length_cons];omega
    ·exact ih
 induction l with
 | nil=>cases hx
 | cons a l ih =>
  rw[List.filter_cons,List.filter_cons];rcases List.mem_cons.1 hx with e | hx
  ·subst e;rw[if_neg (by simp),if_pos (by simpa using hn)];have:=mono l;simp only[List.length_cons];omega
  ·have h0:=ih hx;by_cases h1:a∉O++[x]
   ·have h2:a∉O:=fun h=>h1 (List.mem_append_left _ h);rw[if_pos (by simpa using h1),if_pos (by simpa using h2)];simp only[List.length_cons];omega
   ·rw[if_neg (by simpa using h1)];split
    ·simp only[List.length_cons];omega
    ·exact h0
theorem uF.none_ {l O:List It}{m:Nat}(h:uF l O m)(ha:Ap O l l.length (-1)):uF l O (m+1):=by
 rcases ha with⟨_,h2⟩ | ⟨q,y,h1,_⟩
 ·rw[List.take_length]at h2;exact⟨h.rise,h.sub,h.low,.inr h2,Nat.le_succ_of_le h.len⟩
 ·omega
theorem uF.one {l O:List It}{m q:Nat}{y:It}(h:uF l O m)(ha:Ap O l l.length (q:Int))(hy:l[q]?=some y):uF l (O++[y]) (m+1):=by
 rcases ha with⟨h1,_⟩ | ⟨q',y',h1,h2,h3,h4,h5⟩
 ·omega
 ·obtain rfl:q=q':=by omega
  rw[hy]at h3;injection h3 with h3;subst h3;rw[List.take_length]at h5;have hyl:=List.mem_of_getElem? hy;refine⟨?_,fun x hx=>?_,fun x hx hn z hz=>?_,?_,by rw[List.length_append];exact Nat.succ_le_succ h.len⟩
  ·unfold iQ;rw[List.pairwise_append];refine⟨h.rise,by simp,fun a ha b hb=>?_⟩;obtain rfl:b=y:=by simpa using hb
   exact h.low b hyl h4 a ha
  ·rcases List.mem_append.1 hx with hx | hx
   ·exact h.sub x hx
   ·obtain rfl:x=y:=by simpa using hx
    exact hyl
  ·have hn1:x∉O:=fun e=>hn (List.mem_append_left _ e);have hn2:x≠y:=fun e=>hn (by rw[e];simp);rcases List.mem_append.1 hz with hz | hz
   ·exact h.low x hx hn1 z hz
   ·obtain rfl:z=y:=by simpa using hz
    rcases Classical.em (Less z x)with e | e
    ·exact e
    ·exact absurd (Less.total (h5 x hx hn1) e) hn2
  ·rcases h.left with e | e
   ·left;have:=DT hyl h4;omega
   ·exact absurd (e y hyl) h4
theorem uF.done {l O:List It}(h:uF l O l.length):iQ O/\∀ x,x∈O↔x∈l:=by
 refine⟨h.rise,fun x=>⟨h.sub x,fun hx=>?_⟩⟩;rcases h.left with e | e
 ·rcases Classical.em (x∈O)with k | k
  ·exact k
  ·have h1:x∈l.filter fun x=>decide (x∉O):=List.mem_filter.2 ⟨hx,by simpa using k⟩;have h2:=List.length_pos_of_mem h1;omega
 ·exact e x hx
end Go.Proofs.aO
namespace Go.Proofs.YticmnfmijdgmbaaGreatDoor
open Go Go.RowKit Go.Lib
open aO (It Less iQ yg Ap uF)
theorem jl {w:World}{B:Nat}{e:TypeId}{v:Value}{l:List It}(h:w.ownsRow B e 2 v l.length (icells l))(hl:l.length<=9223372036854775807):aS w v l:=by
 obtain⟨o,c,rfl⟩:=bF h;refine⟨o,c,rfl,hl,fun h0=>?_⟩;obtain⟨g,rfl,_⟩:=rC h (i:=0) h0 rfl;refine⟨g,0,rfl,fun i hi=>?_⟩;obtain⟨g',e1,_,h1,h2⟩:=rC h hi rfl;injection e1 with e1;injection e1 with e1;subst e1;rw[show l.getD i (0,0)=l[i]by rw[dL,dH hi];rfl,Nat.zero_add];exact⟨h1,h2⟩
theorem nV {ops:Array Oper}{rest:List Oper}{o:Oper}{a:Act}{w:World}{Q:Exit->Act->World->Prop}(hgd:o.guard=none)(s x:Operand)(ho:o.op=.call {callee:=.builtin .append,args:=#[s,x],argTypes:=#[50,50]})
  (base:Nat) (v:Value) (n:Nat) (xs:List Value) (hs:a.eval s=v) (hown:w.ownsRow base 110 2 v n xs) (g:Nat) (hx:a.eval x=.slice (some ⟨g,0,none⟩) 1 1) (p q:Int) (hb:w.heap[g]?=some (.cells #[.int .i64 p,.int .i64 q] 110 (0,0))) (hn:n<=1000000) (hbase:base<=w.heap.size)
  (h:∀ v' w',w'.ownsRow base 110 2 v' (n+1) (xs++[.int .i64 p,.int .i64 q])->w.grownBy w' v.ownBlock->(v'.ownBlock=v.ownBlock\/v'.ownBlock=some w.heap.size)->wpList Tryz.prog ops Q rest (a.put o.dst v') w'):wpList Tryz.prog ops Q (o::rest) a w:=by
 obtain⟨i,hi,h0,h1,h2⟩:=info_parts KZ;refine wpList_append_own_at w hgd s x 50 ho base 110 i _ 2 16 Tryz.underlying50 hi h0 h1 h2 rfl (by decide) v n xs hs hown ⟨g,0,none⟩ 1 1 [.int .i64 p,.int .i64 q] hx rfl (fun j u hj=>?_) (fun u hu=>?_) (by unfold maxLen;omega) ?_ hbase (fun v' w' a1 a2 _ a4=>h v' w' a1 a2 a4)
 ·rw[jr,Nat.zero_add,ak hb,<-hj];simp
 ·simp at hu;rcases hu with rfl | rfl<;>rfl
 ·omega
theorem uJ {P:Program}{w:World}{o:Oper}{a:Act}{K:Act->World->Prop}{Q:Exit->Act->World->Prop}(s x:Operand)(t:TypeId)
  (ho:o.op=.call {callee:=.builtin .append,args:=#[s,x],argTypes:=#[t,t]})
  (base:Nat) (e:TypeId) (i:TypeInfo) (z:Value) (size bytes:Nat) (ht:P.underlying t=some (.slice e)) (hi:P.info? e=some i) (hz:i.zero=some z)
  (hsize:i.size=size) (hby:i.bytes=bytes) (hzs:z.cells.size=size) (hsz:0<size)
  (v:Value) (n:Nat) (xs:List Value) (hs:a.eval s=v) (hown:w.ownsRow base e size v n xs)
  (ad:Addr) (m c:Nat) (news:List Value) (hx:a.eval x=.slice (some ad) m c) (hl:news.length=m*size) (hnews:∀ j u,news[j]?=some u->w.cell? (ad.add j)=some u) (h1:∀ u∈news,u.oneCell'=true)
  (h63:n+m<=maxLen) (hbytes:(n+m)*bytes<=140737488355328) (hbase:base<=w.heap.size)
  (h:∀ v' w',w'.ownsRow base e size v' (n+m) (xs++news)->w.grownBy w' v.ownBlock->(v'=.slice none 0 0↔v=.slice none 0 0/\m=0)->(v'.ownBlock=v.ownBlock\/v'.ownBlock=some w.heap.size)->K (a.put o.dst v') w') :
  o.wp P a w K Q:=by
 obtain⟨v',w',hr,h2,h3,h4,h5⟩:=run_append_own_at (P:=P) w base t o.type e i z size bytes ht hi hz hsize hby hzs hsz v n xs hown ad m c news hl hnews h1 h63 hbytes hbase;unfold Oper.wp execOp;simp only[ho,resolve,invoke,builtin,Sem.run_bind,Sem.run_pure,Result.andThen_ok,List.map_toArray,List.map_cons,List.map_nil,hs,hx,hr];exact h v' w' h2 h3 h4 h5
theorem Ht {w:World}{o:Oper}{a:Act}{K:Act->World->Prop}{Q:Exit->Act->World->Prop}(s x:Operand)(ho:o.op=.call {callee:=.builtin .append,args:=#[s,x],argTypes:=#[50,50]})
  (base:Nat) (v:Value) (n:Nat) (xs:List Value) (hs:a.eval s=v) (hown:w.ownsRow base 110 2 v n xs) (g:Nat) (hx:a.eval x=.slice (some ⟨g,0,none⟩) 1 1) (p q:Int) (hb:w.heap[g]?=some (.cells #[.int .i64 p,.int .i64 q] 110 (0,0))) (hn:n<=1000000) (hbase:base<=w.heap.size)
  (h:∀ v' w',w'.ownsRow base 110 2 v' (n+1) (xs++[.int .i64 p,.int .i64 q])->w.grownBy w' v.ownBlock->(v'.ownBlock=v.ownBlock\/v'.ownBlock=some w.heap.size)->K (a.put o.dst v') w'):o.wp Tryz.prog a w K Q:=by
 obtain⟨i,hi,h0,h1,h2⟩:=info_parts KZ;refine uJ s x 50 ho base 110 i _ 2 16 Tryz.underlying50 hi h0 h1 h2 rfl (by decide) v n xs hs hown ⟨g,0,none⟩ 1 1 [.int .i64 p,.int .i64 q] hx rfl (fun j u hj=>?_) (fun u hu=>?_) (by unfold maxLen;omega) ?_ hbase (fun v' w' a1 a2 _ a4=>h v' w' a1 a2 a4)
 ·rw[jr,Nat.zero_add,ak hb,<-hj];simp
 ·simp at hu;rcases hu with rfl | rfl<;>rfl
 ·omega
theorem oW {w':World}{B:Nat}{v':Value}{O:List It}{x:It}(h:w'.ownsRow B 110 2 v' (O.length+1) (icells O++[.int .i64 x.1,.int .i64 x.2])):w'.ownsRow B 110 2 v' (O++[x]).length (icells (O++[x])):=by
 rw[qE,List.length_append];exact h
theorem J9 {w:World}(x y:It):Calls Tryz.prog 121 #[mg x,mg y] w fun e w'=>e=.returned (.bool (yg x y))/\aj w w':=by
 obtain⟨W1,e1⟩:=ai (w.alloc (.cells #[.int .i64 x.1,.int .i64 x.2] 110));obtain⟨W2,e2⟩:=ai (W1.alloc (.cells #[.int .i64 y.1,.int .i64 y.2] 110));have hb1:aj w W1:=dM e1;have hb2:aj W1 W2:=dM e2;have n1:W1.heap[w.heap.size]?=some (.cells #[.int .i64 x.1,.int .i64 x.2] 110 (0,0)):=dO e1;have n2:W2.heap[W1.heap.size]?=some (.cells #[.int .i64 y.1,.int .i64 y.2] 110 (0,0)):=dO e2;have c0:ay W2 w.heap.size 0 (.int .i64 x.1):=cell_below hb2 (ak n1 0);have c1:ay W2 w.heap.size 1 (.int .i64 x.2):=cell_below hb2 (ak n1 1);have c2:ay W2 W1.heap.size 0 (.int .i64 y.1):=ak n2 0;have c3:ay W2 W1.heap.size 1 (.int .i64 y.2):=ak n2 1;have HB:=hid (hb1.trans (hb2.mono hb1.size));obtain⟨r,hr⟩:=ai (yg x y);have HR:=hid hr;rw[hr];unfold mg;obtain⟨a,b⟩:=x;obtain⟨c,d⟩:=y;unfold yg at HR;dsimp only at *;clear hb1 hb2 n1 n2 hr;by_cases k1:a<c
 ·have d1:decide (a<c)=true:=eP k1;obtain rfl:true=r:=by rw[<-HR.o,d1];rfl
  go_enter Tryz.func121,Tryz.ntmps121;go_wp2_with fail;go_ret;exact⟨rfl,HB.o⟩
 ·have d1:decide (a<c)=false:=dA k1;by_cases k2:a=c
  ·by_cases k3:b<d
   ·have d3:decide (b<d)=true:=eP k3;obtain rfl:true=r:=by rw[<-HR.o,d1,eP k2,d3];rfl
    subst k2;go_enter Tryz.func121,Tryz.ntmps121;go_wp2_with fail;go_ret;exact⟨rfl,HB.o⟩
   ·have d3:decide (b<d)=false:=dA k3;obtain rfl:false=r:=by rw[<-HR.o,d1,eP k2,d3];rfl
    subst k2;go_enter Tryz.func121,Tryz.ntmps121;go_wp2_with fail;go_ret;exact⟨rfl,HB.o⟩
  ·have d2:(a == c)=false:=by rw[beq_eq_false_iff_ne];exact k2
   obtain rfl:false=r:=by rw[<-HR.o,d1,dA k2];rfl
   go_enter Tryz.func121,Tryz.ntmps121;go_wp2_with fail;go_ret;exact⟨rfl,HB.o⟩
def RowP (L:List It)(w:World)(e:Ending)(w':World):Prop:=∃ rv,e=.returned rv/\w'.ownsRow w.heap.size 110 2 rv L.length (icells L)/\aj w w'
def MM (l:List It)(w:World)(e:Ending)(w':World):Prop:=∃ L,iQ L/\(∀ x,x∈L↔x∈l)/\L.length<=l.length/\RowP L w e w'
theorem wI {w:World}{v:Value}{l:List It}(h:aS w v l)(hl:l.length<=100000) :
  Calls Tryz.prog 91 #[v] w (MM l w):=by
 obtain⟨vo,vc,rfl,hvn⟩:=h.len;obtain⟨n,hln⟩:=ai (l.length);have HLN:=hid hln;have HL:=hid h;rw[hln]at HL hvn hl ⊢;clear h hln;go_enter Tryz.func91,Tryz.ntmps91;go_wp2_with fail
 go_loopw [3,4,5,6] (fun t3 t4 t5 t6 wr=>∃ (m:Nat) (O:List It),m<=n/\t4=.int .i64 (m:Int)/\Hid (uF l O m)/\Hid (wr.ownsRow w.heap.size 110 2 t3 O.length (icells O))/\Hid (aj w wr)) (fun _ t4 _ _ _=>n-(RowKit.intOf t4).toNat)
 case atStart=>exact⟨0,[],Nat.zero_le _,rfl,hid (uF.start l),hid (World.ownsRow_nil _ _ _ _),hid (eH _ _)⟩
 case round =>
  obtain⟨m,O,hm,rfl,HX,HO,HB⟩:=hrel;have hszr:=HB.o.size;by_cases hlt:m<n
  ·have t1:(m:Int)<(n:Int):=by omega
   have hOm:O.length<=100000:=by have:=HX.o.len;omega
   obtain⟨oo,oc,rfl⟩:=bF HO.o;generalize hwo:wr=wo at *;clear hwo;go_wp2_with fail
   go_loopw [5,6] (fun t5 t6 wr=>∃ (i:Nat) (a:Int),i<=n/\t6=.int .i64 (i:Int)/\t5=.int .i64 a/\Hid (Ap O l i a)/\Hid (aj wo wr)) (fun _ t6 _=>n-(RowKit.intOf t6).toNat)
   case atStart=>exact⟨0,-1,Nat.zero_le _,rfl,rfl,hid (Ap.start O l),hid (eH _ _)⟩
   case round =>
    obtain⟨i,a,hi,rfl,rfl,HA,HBo⟩:=hrel;have hszo:=HBo.o.size;by_cases hlti:i<n
    ·have t3:(i:Int)<(n:Int):=(by omega);have t4:(0:Int)<=(i:Int):=(by omega);obtain⟨x,hx⟩:∃ x,l[i]?=some x:=⟨_,dH (by rw[HLN.o];exact hlti)⟩;have HXX:=hid hx;obtain⟨lb,lo,rfl,q0,q1⟩:=HL.o.at_ hx;have HBw:=hid (HB.o.trans (HBo.o.mono hszr));have HQ0:Hid (∀ w',aj wr w'->w'.cell? ⟨lb,lo+i*2,none⟩=some (.int .i64 x.1)):=hid fun w' hC=>cell_below hC (cell_below HBw.o q0);have HQ1:Hid (∀ w',aj wr w'->w'.cell? ⟨lb,lo+i*2+1,none⟩=some (.int .i64 x.2)):=hid fun w' hC=>cell_below hC (cell_below HBw.o q1);obtain⟨hb,hhb⟩:=ai (decide (x∈O));have hKH:∀ w',aj wr w'->Calls Tryz.prog 90 #[.slice oo O.length oc,.agg #[.int .i64 x.1,.int .i64 x.2]] w' fun e w''=>e=.returned (.bool hb)/\aj w' w'':=fun w' hC=>by
      have h1:=own_below (own_below HO.o HBo.o) hC;have h2:=Bv (jl h1 (by omega)) x;rw[hhb]at h2;exact h2
     have KH:=hid hKH;clear hKH hx q0 q1;cases hb
     case true =>
      have HA2:=hid (HA.o.skip HXX.o (of_decide_eq_true hhb));clear hhb;go_wp2_with fail;refine ah (by kernel_rfl) (by kernel_rfl) ?_;iterate 22
       first
       | with_reducible refine BigFrame.wpQuiet_skip (by with_unfolding_all rfl) ?_
       | with_reducible refine BigFrame.wpQuiet_want (by kernel_rfl) (fun K hK=>?_)
         apply Exists.intro;refine⟨fun w' hC=>?_,hK _ ?_⟩
         ·have f0':=HQ0.o w' hC;have f1':=HQ1.o w' hC;unfold Oper.quietAt;go_simp
          first | with_reducible rfl | with_reducible exact bD hC (bJ _) (KH.o w' hC)
         clear hK K
       try simp only[Act.put,bP,bQ,bK]
      refine wpQuiet_nil ?_;intro w6 hb6;have HB6:=hid (HBo.o.trans (hb6.mono hszo));clear hb6;go_wp2_with fail;refine⟨⟨i+1,a,by omega,rfl,rfl,HA2,HB6⟩,?_⟩;show n-((i:Int)+1).toNat<n-((i:Int)).toNat;omega
     case false =>
      have hno:=of_decide_eq_false hhb;clear hhb;have ha:a=-1\/∃ (q:Nat) (y:It),a=(q:Int)/\q<n/\l[q]?=some y:=by
       rcases HA.o with⟨e,_⟩ | ⟨q,y,e,e2,e3,_⟩
       ·exact .inl e
       ·exact .inr ⟨q,y,e,by omega,e3⟩
      rcases ha with rfl | ⟨q,y,rfl,hq,hy⟩
      ·have HA2:=hid (HA.o.new HXX.o hno);clear hno;go_wp2_with fail;refine ah (by kernel_rfl) (by kernel_rfl) ?_;iterate 22
        first
        | with_reducible refine BigFrame.wpQuiet_skip (by with_unfolding_all rfl) ?_
        | with_reducible refine BigFrame.wpQuiet_want (by kernel_rfl) (fun K hK=>?_)
          apply Exists.intro;refine⟨fun w' hC=>?_,hK _ ?_⟩
          ·have f0':=HQ0.o w' hC;have f1':=HQ1.o w' hC;unfold Oper.quietAt;go_simp
           first | with_reducible rfl | with_reducible exact bD hC (bJ _) (KH.o w' hC)
          clear hK K
        try simp only[Act.put,bP,bQ,bK]
       refine wpQuiet_nil ?_;intro w6 hb6;have HB6:=hid (HBo.o.trans (hb6.mono hszo));clear hb6;go_wp2_with fail;refine⟨⟨i+1,(i:Int),by omega,rfl,rfl,HA2,HB6⟩,?_⟩;show n-((i:Int)+1).toNat<n-((i:Int)).toNat;omega
      ·have t5:(q:Int)<(n:Int):=(by omega);have t6:(0:Int)<=(q:Int):=(by omega);have t7:decide ((q:Int)<0)=false:=dA (by omega);obtain⟨lb',lo',elo,p0,p1⟩:=HL.o.at_ hy;injection elo with elo;injection elo with elb elo;subst elb;subst elo;have HQ2:Hid (∀ w',aj wr w'->w'.cell? ⟨lb,lo+q*2,none⟩=some (.int .i64 y.1)):=hid fun w' hC=>cell_below hC (cell_below HBw.o p0);have HQ3:Hid (∀ w',aj wr w'->w'.cell? ⟨lb,lo+q*2+1,none⟩=some (.int .i64 y.2)):=hid fun w' hC=>cell_below hC (cell_below HBw.o p1);obtain⟨lb2,hlb2⟩:=ai (yg x y);have hKL:∀ w',aj wr w'->Calls Tryz.prog 121 #[.agg #[.int .i64 x.1,.int .i64 x.2],.agg #[.int .i64 y.1,.int .i64 y.2]] w' fun e w''=>e=.returned (.bool lb2)/\aj w' w'':=fun w' hC=>by
        have h2:=J9 (w:=w') x y;rw[hlb2]at h2;exact h2
       have KL:=hid hKL;clear hKL p0 p1;cases lb2
       ·have HA2:=hid (HA.o.keep HXX.o hy (fun hl=>by have:=aO.zL.2 hl;rw[hlb2]at this;cases this));clear hno hlb2 hy;go_wp2_with fail;refine ah (by kernel_rfl) (by kernel_rfl) ?_;iterate 22
         with_reducible refine BigFrame.wpQuiet_want (by kernel_rfl) (fun K hK=>?_)
         apply Exists.intro;refine⟨fun w' hC=>?_,hK _ ?_⟩
         ·have f0':=HQ0.o w' hC;have f1':=HQ1.o w' hC;have f2':=HQ2.o w' hC;have f3':=HQ3.o w' hC;unfold Oper.quietAt;go_simp
          first | with_reducible rfl | with_reducible exact bD hC (bJ _) (KH.o w' hC) | with_reducible exact bD hC (bJ _) (KL.o w' hC)
         clear hK K;try simp only[Act.put,bP,bQ,bK]
        refine wpQuiet_nil ?_;intro w6 hb6;have HB6:=hid (HBo.o.trans (hb6.mono hszo));clear hb6;go_wp2_with fail;refine⟨⟨i+1,(q:Int),by omega,rfl,rfl,HA2,HB6⟩,?_⟩;show n-((i:Int)+1).toNat<n-((i:Int)).toNat;omega
       ·have HA2:=hid (HA.o.less HXX.o hno hy (aO.zL.1 hlb2));clear hno hlb2 hy;go_wp2_with fail;refine ah (by kernel_rfl) (by kernel_rfl) ?_;iterate 22
         with_reducible refine BigFrame.wpQuiet_want (by kernel_rfl) (fun K hK=>?_)
         apply Exists.intro;refine⟨fun w' hC=>?_,hK _ ?_⟩
         ·have f0':=HQ0.o w' hC;have f1':=HQ1.o w' hC;have f2':=HQ2.o w' hC;have f3':=HQ3.o w' hC;unfold Oper.quietAt;go_simp
          first | with_reducible rfl | with_reducible exact bD hC (bJ _) (KH.o w' hC) | with_reducible exact bD hC (bJ _) (KL.o w' hC)
         clear hK K;try simp only[Act.put,bP,bQ,bK]
        refine wpQuiet_nil ?_;intro w6 hb6;have HB6:=hid (HBo.o.trans (hb6.mono hszo));clear hb6;go_wp2_with fail;refine⟨⟨i+1,(i:Int),by omega,rfl,rfl,HA2,HB6⟩,?_⟩;show n-((i:Int)+1).toNat<n-((i:Int)).toNat;omega
    ·have t3:¬ (i:Int)<(n:Int):=(by omega);have hin:i=n:=(by omega);have HB7:=hid (HB.o.trans (HBo.o.mono hszr));have HO7:=hid (own_below HO.o HBo.o);have HA7:=hid (show Ap O l l.length a from by rw[HLN.o,<-hin];exact HA.o);have ha:a=-1\/∃ (q:Nat) (y:It),a=(q:Int)/\q<n/\l[q]?=some y:=by
      rcases HA.o with⟨e,_⟩ | ⟨q,y,e,e2,e3,_⟩
      ·exact .inl e
      ·exact .inr ⟨q,y,e,by omega,e3⟩
     clear hin;rcases ha with rfl | ⟨q,y,rfl,hq,hy⟩
     ·have HX2:=hid (HX.o.none_ HA7.o);have HO8:=hid (show wr.ownsRow w.heap.size 110 2 (.slice oo O.length oc) O.length (icells O)from HO7.o);go_wp2_with fail;refine⟨⟨m+1,O,by omega,rfl,HX2,HO8,HB7⟩,?_⟩;show n-((m:Int)+1).toNat<n-((m:Int)).toNat;omega
     ·have t5:(q:Int)<(n:Int):=(by omega);have t6:(0:Int)<=(q:Int):=(by omega);have HX2:=hid (HX.o.one HA7.o hy);obtain⟨lb,lo,rfl,p0,p1⟩:=HL.o.at_ hy;have p0:=cell_below HB7.o p0;have p1:=cell_below HB7.o p1;obtain⟨wq,eq⟩:=ai (wr.alloc (.cells #[.int .i64 y.1,.int .i64 y.2] 110));have hbq:aj wr wq:=dM eq;have HNQ:=hid (show wq.heap[wr.heap.size]?=some (.cells #[.int .i64 y.1,.int .i64 y.2] 110 (0,0))from by rw[<-eq];exact aK _ _);have HOq:=hid (own_below HO7.o hbq);have HBq:=fJ HB7 hbq;have hdq:=HBq.o.size;clear hbq hy;go_wp2_with (at_builtin;refine nV rfl (.tmp 44) (.tmp 49) rfl w.heap.size (.slice oo O.length oc) O.length (icells O) rfl HOq.o wr.heap.size rfl y.1 y.2 HNQ.o (by omega) hdq ?_);intro v7 w7 hown7 hg7 hat7;have HO8:=hid (oW hown7);have HB8:=hid (HBq.o.grown hg7 hdq (fun q hq=>(iF HOq.o q hq).1));clear hown7 hg7 hat7 eq;go_wp2_with fail;refine⟨⟨m+1,O++[y],by omega,rfl,HX2,HO8,HB8⟩,?_⟩;show n-((m:Int)+1).toNat<n-((m:Int)).toNat;omega
  ·have t1:¬ (m:Int)<(n:Int):=by omega
   have hmn:m=n:=by omega
   have HD:=hid (show uF l O l.length from by rw[HLN.o,<-hmn];exact HX.o);go_wp2_with fail;go_ret;exact⟨O,HD.o.done.1,HD.o.done.2,HD.o.len,_,rfl,HO.o,HB.o⟩
open aO (It ax bu aY)
theorem kV {G:GD}{gv:Value}{w:World}(h:fZ w gv G)(hv:aB G=true)(a:Int)(h1:-1<=a)(h2:a<(G.prods.length:Int)) :
  Calls Tryz.prog 26 #[gv,.int .i64 a] w (ML (ax G a) w):=by
 obtain⟨tv,ov,sv,pv,tf,rv,h⟩:=h;obtain⟨W1,B,hW1,hB,c0,c1,c2,c3,c4,hG,hb,hsz⟩:=gU h;obtain⟨s0,s1,_⟩:=dR hv;have hgv:=h.eq;subst hgv hB;have e1:=hW1.symm;have HB2:=hid hb;have HG2:=hid hG;by_cases hx:a=-1
 ·subst hx;obtain⟨W3,e3⟩:=ai (W1.alloc (.cells #[.int .i64 (-1-G.start)] 61));have hb3:aj W1 W3:=dM e3;have HN3:=hid (show W3.heap[W1.heap.size]?=some (.cells #[.int .i64 (-1-G.start)] 61 (0,0))from by rw[<-e3];exact heap_alloc_new _ _);have HB3:=fJ HB2 hb3;have HS:=hid (And.intro s0 s1);clear hW1 hb hb3 hG h;go_enter Tryz.func26,Tryz.ntmps26;go_wp2_with fail;go_ret;refine⟨_,rfl,⟨⟨_,_,rfl,by show(1:Nat)<=9223372036854775807;decide,fun _=>⟨_,0,rfl,fun i hi=>?_⟩⟩,fun y hy=>?_⟩,HB3.o⟩
  ·obtain rfl:i=0:=by have:i<1:=hi;omega
   exact ak HN3.o 0
  ·obtain rfl:y=-1-G.start:=by simpa[ax] using hy
   have:=HS.o;omega
 ·obtain⟨p,rfl⟩:∃ p:Nat,a=(p:Int):=⟨a.toNat,by omega⟩;have hp:p<G.prods.length:=by omega
  have HR:=hid (show ax G (p:Int)=(G.prods.getD p default).rs from by unfold ax;rw[if_neg hx,Int.toNat_natCast]);have HI:=hid (HG2.o.rights p hp);obtain⟨pa,pc,rfl,hpn,hpc⟩:=HG2.o.prods;obtain⟨pb,po,rfl,hpq⟩:=hpc (by omega);obtain⟨_,_,q2,_⟩:=hpq p hp;obtain⟨ra,rc,hrv,_⟩:=(HG2.o.rights p hp).1;obtain⟨rn,hrn⟩:=ai ((G.prods.getD p default).rs.length);rw[hrn]at hrv;have HRV:=hid hrv;rw[hrv]at q2;have p0:(0:Int)<=(p:Int):=by omega
  clear hW1 hb hG h hpq hrv hrn;go_enter Tryz.func26,Tryz.ntmps26;go_wp2_with fail;go_ret;refine⟨_,rfl,?_,HB2.o⟩;rw[HR.o];have:=HI.o;rw[HRV.o]at this;exact this
end Go.Proofs.YticmnfmijdgmbaaGreatDoor
