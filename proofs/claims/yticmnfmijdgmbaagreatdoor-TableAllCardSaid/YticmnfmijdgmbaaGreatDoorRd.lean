import Derived.Laws.IdiomStrings
import Derived.Laws.Tables
import Derived.Lib.BufferRead
import Derived.Lib.ItoaLen
import Derived.Shelf.LaysM
import Derived.Shelf.Strconv.AppendIntPublic10
import Derived.Test.YticmnfmijdgmbaaGreatDoorFo
import Derived.Test.YticmnfmijdgmbaaGreatDoorSn
set_option linter.all false
set_option maxRecDepth 100000
set_option maxHeartbeats 4000000
namespace Go.Proofs
open Go.Shelf
shelf_lay LaysM.n176 Nm 176 at Tryz as Tryz.laysM176
end Go.Proofs
namespace Go.Proofs.YticmnfmijdgmbaaGreatDoor
open Go Go.RowKit Go.Lib Go.Shelf
open aO (It)
theorem info5:(Tryz.prog.info? 5).map (fun i=>(i.zero,i.size,i.bytes))=some (some (.int .u8 0),1,1):=by kernel_rfl
abbrev Tab (B:Nat)(w:World):Prop:=Lib.TabBelow Tryz.prog B w "internal/strconv.uint64pow10" .u64 Lib.pow10Tab
theorem Tab.up {B B':Nat}{w:World}(h:Tab B w)(hB:B<=B'):Tab B' w:=fun w' hb=>h w' (hb.mono hB)
theorem yI (B n:Nat)(i:Int)(h0:-9223372036854775808<=i)(h1:i<=9223372036854775807)(sv:Value)(xs:List Value)(w:World)(hown:w.ownsRow B 5 1 sv n xs)(hBw:B<=w.heap.size)(hlim:n+21<=140737488355328)(htab:Tab B w) :
  Calls Tryz.prog 104 #[sv,.int .i64 i,.int .i64 10] w fun e w'=>∃ v',e=.returned v'/\w'.ownsRow B 5 1 v' (n+(Lib.itoa i).length) (xs++Lib.byteCells (Lib.itoa i))/\Below B w w'/\Lib.OthersKept 5 none w w':=
 Any.strconv_AppendInt_10 Tryz.laysM176 B n i h0 h1 sv xs w hown hBw hlim htab
def valD (l:List UInt8):Nat:=l.foldl (fun a b=>10*a+(b.toNat-48)) 0
theorem GV:∀ u,valD (Lib.decDigits u)=u:=by
 intro u;induction u using Nat.strongRecOn with
 | _ u ih =>
  by_cases h:u<10
  ·rw[Lib.decDigits,dif_pos h];simp only[valD,List.foldl_cons,List.foldl_nil];have:(UInt8.ofNat (48+u)).toNat=48+u:=by rw[UInt8.toNat_ofNat'];omega
   rw[this];omega
  ·rw[Lib.decDigits,dif_neg h];have e:=ih (u / 10) (by omega);unfold valD at e ⊢;rw[List.foldl_append,e];simp only[List.foldl_cons,List.foldl_nil];have:(UInt8.ofNat (48+u % 10)).toNat=48+u % 10:=by rw[UInt8.toNat_ofNat'];omega
   rw[this];omega
theorem zV:∀ u,∀ b∈Lib.decDigits u,48<=b.toNat:=by
 intro u;induction u using Nat.strongRecOn with
 | _ u ih =>
  intro b hb;by_cases h:u<10
  ·rw[Lib.decDigits,dif_pos h]at hb;obtain rfl:=List.mem_singleton.1 hb;have:(UInt8.ofNat (48+u)).toNat=48+u:=by rw[UInt8.toNat_ofNat'];omega
   omega
  ·rw[Lib.decDigits,dif_neg h]at hb;rcases List.mem_append.1 hb with hb | hb
   ·exact ih (u / 10) (by omega) b hb
   ·obtain rfl:=List.mem_singleton.1 hb;have:(UInt8.ofNat (48+u % 10)).toNat=48+u % 10:=by rw[UInt8.toNat_ofNat'];omega
    omega
theorem AL {x:UInt8} : ∀ {l l' r r':List UInt8},x∉l->x∉l'->l++x::r=l'++x::r'->l=l'/\r=r'
 | [],[],r,r',_,_,h=>by simpa using h
 | [],b::l',r,r',_,h2,h=>by
  simp only[List.nil_append,List.cons_append,List.cons.injEq]at h;exact absurd (by rw[h.1];simp) h2
 | b::l,[],r,r',h1,_,h=>by
  simp only[List.nil_append,List.cons_append,List.cons.injEq]at h;exact absurd (by rw[h.1];simp) h1
 | b::l,b'::l',r,r',h1,h2,h=>by
  simp only[List.cons_append,List.cons.injEq]at h;obtain⟨e1,e2⟩:=AL (fun hm=>h1 (by simp[hm])) (fun hm=>h2 (by simp[hm])) h.2;exact⟨by rw[h.1,e1],e2⟩
theorem DC {a b:Int}(h:Lib.itoa a=Lib.itoa b):a=b:=by
 have hd:∀ u r,Lib.decDigits u≠(45:UInt8)::r:=fun u r e=>by
  have:=zV u 45 (by rw[e];simp);simp at this
 have hv:∀ u v,Lib.decDigits u=Lib.decDigits v->u=v:=fun u v e=>by rw[<-GV u,<-GV v,e]
 unfold Lib.itoa at h;split at h<;>split at h
 ·injection h with _ h;have:=hv _ _ h;omega
 ·exact absurd h.symm (hd _ _)
 ·exact absurd h (hd _ _)
 ·have:=hv _ _ h;omega
theorem wW {c:UInt8}(h0:c.toNat<48)(h1:c≠45)(a:Int):c∉Lib.itoa a:=by
 intro hm;have hd:∀ u,c∉Lib.decDigits u:=fun u hm=>by have:=zV u _ hm;omega
 unfold Lib.itoa at hm;split at hm
 ·rcases List.mem_cons.1 hm with e | e
  ·exact h1 e
  ·exact hd _ e
 ·exact hd _ hm
def zN (x:It):List UInt8:=Lib.itoa x.1++[46]++Lib.itoa x.2++[32]
def jw (l:List It):List UInt8:=l.flatMap zN
theorem Dz:∀ {A B:List It},jw A=jw B->A=B
 | [],[],_=>rfl
 | [],b::B,h=>by simp[jw,zN]at h
 | a::A,[],h=>by simp[jw,zN]at h
 | a::A,b::B,h=>by
  have e:∀ (x:It) (l:List It),jw (x::l)=Lib.itoa x.1++46::(Lib.itoa x.2++32::jw l):=fun x l=>by
   unfold jw;rw[List.flatMap_cons,zN];simp
  rw[e,e]at h;obtain⟨e1,e2⟩:=AL (wW (by decide) (by decide) _) (wW (by decide) (by decide) _) h;obtain⟨e3,e4⟩:=AL (wW (by decide) (by decide) _) (wW (by decide) (by decide) _) e2;rw[Dz e4,show a=b from Prod.ext (DC e1) (DC e3)]
theorem IA {A:List It}{k:Nat}{x:It}(hx:A.getD k (0,0)=x)(hk:k<A.length):jw (A.take (k+1))=jw (A.take k)++Lib.itoa x.1++[46]++Lib.itoa x.2++[32]:=by
 have e:A[k]?=some x:=by rw[dH hk,<-hx,dL,dH hk];rfl
 unfold jw;rw[List.take_add_one,e,List.flatMap_append];simp[zN]
def inR (x:It):Prop:=(-9223372036854775808<=x.1/\x.1<=9223372036854775807)/\-9223372036854775808<=x.2/\x.2<=9223372036854775807
theorem Dy (A:List It)(h:∀ q∈A,inR q):(jw A).length<=A.length*44:=by
 induction A with
 | nil=>simp[jw]
 | cons a A ih =>
  have h0:=h a (by simp);have h1:=Lib.itoa_length_le a.1 h0.1.1 h0.1.2;have h3:=Lib.itoa_length_le a.2 h0.2.1 h0.2.2;have h2:=ih fun q hq=>h q (by simp[hq]);unfold jw at *;rw[List.flatMap_cons,zN];simp only[List.length_append,List.length_cons,List.length_nil];omega
theorem conv95 (w:World)(B:Nat)(v:Value)(l:List UInt8)(h:w.ownsRow B 5 1 v l.length (Lib.byteCells l)):(convert 173 9 v).run Tryz.prog w=.ok (.string ⟨l.toArray⟩) w:=by
 rcases h.2 with⟨rfl,h0⟩ | ⟨g,cap,cur,rfl,_⟩
 ·obtain rfl:l=[]:=List.eq_nil_of_length_eq_zero h0;exact run_convert_nil_bytes w 173 9 5 0 Tryz.underlying173 Tryz.underlying5 Tryz.underlying9
 ·refine Go.run_convert_bytes_back w 173 9 5 _ cap l Tryz.underlying173 Tryz.underlying5 Tryz.underlying9 fun j hj=>?_;exact h.cells rfl j _ (by simp[Lib.byteCells,hj])
theorem JO {w w':World}{b:Nat}{cs:Array Value}(h:Lib.OthersKept 5 none w w')(hb:w.heap[b]?=some (.cells cs 60 (0,0))):w'.heap[b]?=some (.cells cs 60 (0,0)):=h _ _ hb (by simp) (fun c fz e=>by cases e)
theorem II {w w':World}{B n b:Nat}{v:Value}{xs:List Value}{cs:Array Value}(hg:w.grownBy w' v.ownBlock)(ho:w.ownsRow B 5 1 v n xs)(hb:w.heap[b]?=some (.cells cs 60 (0,0))):w'.heap[b]?=some (.cells cs 60 (0,0)):=by
 refine(hg.block b (dZ hb) fun e=>?_).trans hb;rcases ho.2 with⟨rfl,_⟩ | ⟨g,cap,cur,rfl,_,hh,_⟩
 ·cases e
 ·injection e with e;have e':b=g:=e;subst e';rw[hb]at hh;injection hh with hh;cases hh
theorem tV {ops:Array Oper}{rest:List Oper}{o:Oper}{a:Act}{w:World}{Q:Exit->Act->World->Prop}(hgd:o.guard=none)(s x:Operand)(ho:o.op=.call {callee:=.builtin .append,args:=#[s,x],argTypes:=#[173,173]})
  (base:Nat) (v:Value) (n:Nat) (xs:List Value) (hs:a.eval s=v) (hown:w.ownsRow base 5 1 v n xs) (g:Nat) (hx:a.eval x=.slice (some ⟨g,0,none⟩) 1 1) (p:Int) (hb:w.heap[g]?=some (.cells #[.int .u8 p] 5 (0,0))) (hn:n<=1000000000) (hbase:base<=w.heap.size)
  (h:∀ v' w',w'.ownsRow base 5 1 v' (n+1) (xs++[.int .u8 p])->w.grownBy w' v.ownBlock->(v'.ownBlock=v.ownBlock\/v'.ownBlock=some w.heap.size)->wpList Tryz.prog ops Q rest (a.put o.dst v') w'):wpList Tryz.prog ops Q (o::rest) a w:=by
 obtain⟨i,hi,h0,h1,h2⟩:=info_parts info5;refine wpList_append_own_at w hgd s x 173 ho base 5 i _ 1 1 Tryz.underlying173 hi h0 h1 h2 rfl (by decide) v n xs hs hown ⟨g,0,none⟩ 1 1 [.int .u8 p] hx rfl (fun j u hj=>?_) (fun u hu=>?_) (by unfold maxLen;omega) ?_ hbase (fun v' w' a1 a2 _ a4=>h v' w' a1 a2 a4)
 ·rw[jr,Nat.zero_add,ak hb,<-hj];simp
 ·simp at hu;rcases hu with rfl;rfl
 ·omega
theorem BH:Lib.byteCells [46]=[.int .u8 46]:=rfl
theorem BI:Lib.byteCells [32]=[.int .u8 32]:=rfl
theorem zM {w:World}{Bt:Nat}{v:Value}{l:List It}(h:aS w v l)(hr:∀ x∈l,inR x)(hl:l.length<=1000000)(ht:Tab Bt w)(hBt:Bt<=w.heap.size) :
  Calls Tryz.prog 59 #[v] w fun e w'=>e=.returned (.string ⟨(jw l).toArray⟩)/\aj w w':=by
 have HL:=hid h;have HR:=hid hr;have HT:=hid ht;obtain⟨vo,vc,rfl,hvn,_⟩:=h;obtain⟨n,hln⟩:=ai (l.length);have HLN:=hid hln;rw[hln]at HL hl hvn ⊢;clear hr ht hln;go_enter Tryz.func59,Tryz.ntmps59;go_wp2_with fail
 go_loopw [3,5,8] (fun t3 t5 t8 wr=>∃ k:Nat,k<=n/\t8=.int .i64 (k:Int)/\Hid (wr.ownsRow w.heap.size 5 1 t3 (jw (l.take k)).length (Lib.byteCells (jw (l.take k))))/\Hid (aj w wr)) (fun _ _ t8 _=>n-(RowKit.intOf t8).toNat)
 case atStart=>exact⟨0,Nat.zero_le _,rfl,hid (World.ownsRow_nil _ _ _ _),hid (eH _ _)⟩
 case round =>
  obtain⟨k,hk,rfl,HK,HB⟩:=hrel;have hszr:=HB.o.size;by_cases hlt:k<n
  ·have t1:(k:Int)<(n:Int):=by omega
   have t2:(0:Int)<=(k:Int):=by omega
   have hkl:k<l.length:=by rw[HLN.o];exact hlt
   obtain⟨ro',rc',hro,_,hcs⟩:=HL.o;injection hro with hro1 hro2 hro3;subst hro1;obtain⟨lb,lo,rfl,hcq⟩:=hcs (by omega);obtain⟨q0,q1⟩:=hcq k hkl;have q0:=cell_below HB.o q0;have q1:=cell_below HB.o q1;obtain⟨x,hx⟩:=ai (l.getD k (0,0));have HX:=hid hx;have HTk:=hid (IA hx hkl);have hxr:=HR.o x (by
    have e:l[k]?=some x:=by rw[dH hkl,<-hx,dL,dH hkl];rfl
    exact List.mem_of_getElem? e)
   rw[hx]at q0 q1;have hkl2:=Dy (l.take k) fun q hq=>HR.o q (List.mem_of_mem_take hq);rw[List.length_take]at hkl2;have hkn:(jw (l.take k)).length<=44000000:=by omega
   have i1:=Lib.itoa_length_le x.1 hxr.1.1 hxr.1.2;have i2:=Lib.itoa_length_le x.2 hxr.2.1 hxr.2.2;obtain⟨K,hK⟩:=ai (jw (l.take k));rw[hK]at HK HTk hkn;obtain⟨wx,ex⟩:=ai (wr.alloc (.cells #[.int .i64 0,.int .i64 0] 60));have nx:wx.heap[wr.heap.size]?=some (.cells #[.int .i64 0,.int .i64 0] 60 (0,0)):=dO ex;obtain⟨wa,ea⟩:=ai (wx.setCell ⟨wr.heap.size,0,none⟩ (.int .i64 x.1));obtain⟨wb,eb⟩:=ai (wa.setCell ⟨wr.heap.size,1,none⟩ (.int .i64 x.2));have na:wa.heap[wr.heap.size]?=some (.cells #[.int .i64 x.1,.int .i64 0] 60 (0,0)):=dK ea nx;have nb:wb.heap[wr.heap.size]?=some (.cells #[.int .i64 x.1,.int .i64 x.2] 60 (0,0)):=dK eb na;have hbb:aj wr wb:=by
    rw[<-eb,<-ea,<-ex];exact((((eH _ _).alloc (bJ _) _).setCell (bJ _) _).setCell (bJ _) _)
   have c0:ay wx wr.heap.size 0 (.int .i64 0):=ak nx 0;have f0:=bY nx 0;have c1:ay wa wr.heap.size 1 (.int .i64 0):=ak na 1;have f1:=bY na 1;have d0:ay wb wr.heap.size 0 (.int .i64 x.1):=ak nb 0;have hBb:=HB.o.trans (hbb.mono hszr);have hKb:=own_below HK.o hbb;have hsb:=hbb.size;have KA:=hid (yI w.heap.size K.length x.1 hxr.1.1 hxr.1.2 _ _ wb hKb hBb.size (by omega) (Tab.up (HT.o.on (hBb.mono hBt)) hBt));have HXR:=hid hxr;have HNB:=hid nb;have HBB:=hid hBb;have HDK:=hid hK;clear hcs hcq hx nx na nb hbb hBb hKb HK hro2 hro3 hK hkl2;go_wp2_with fail;refine KA.o.mono ?_;rintro e w2 ⟨v2,rfl,hown2,hb2,ho2⟩;have HN2:=hid (JO ho2 HNB.o);obtain⟨I1,hI1⟩:=ai (Lib.itoa x.1);rw[hI1]at hown2 HTk i1;have hs2:=hb2.size;have hB2:=HBB.o.trans hb2;clear ex ea eb c0 f0 c1 f1 d0 q0 q1 KA ho2 hI1 HNB HBB;obtain⟨wq,eq⟩:=ai (w2.alloc (.cells #[.int .u8 46] 5));have hbq:aj w2 wq:=dM eq;have HNQ:=hid (show wq.heap[w2.heap.size]?=some (.cells #[.int .u8 46] 5 (0,0))from by rw[<-eq];exact aK _ _);have HFq:=hid (own_below hown2 hbq);have HBq:=hid (hB2.trans (hbq.mono hB2.size));have HN3:=hid ((hbq.block _ (dZ HN2.o)).trans HN2.o);have hdq:=HBq.o.size;clear hbq hown2 hb2 hB2;go_wp2_with (at_builtin;refine tV rfl (.tmp 16) (.tmp 17) rfl w.heap.size v2 (K.length+I1.length) (Lib.byteCells K++Lib.byteCells I1) rfl HFq.o w2.heap.size rfl 46 HNQ.o (by omega) hdq ?_);intro v3 w3 hown3 hg3 hat3;have HN4:=hid (II hg3 HFq.o HN3.o);have HB3:=hid (HBq.o.grown hg3 hdq (fun q hq=>(iF HFq.o q hq).1));have d1:ay w3 wr.heap.size 1 (.int .i64 x.2):=ak HN4.o 1;have KA:=hid (yI w.heap.size (K.length+I1.length+1) x.2 HXR.o.2.1 HXR.o.2.2 _ _ w3 hown3 HB3.o.size (by omega) (Tab.up (HT.o.on (HB3.o.mono hBt)) hBt));clear hown3 hg3 hat3 eq HFq HBq HN3 HN2 HNQ;go_wp2_with fail;refine KA.o.mono ?_;rintro e w4 ⟨v4,rfl,hown4,hb4,ho4⟩;obtain⟨I2,hI2⟩:=ai (Lib.itoa x.2);rw[hI2]at hown4 HTk i2;have hB4:=HB3.o.trans hb4;clear d1 KA ho4 hI2 HN4 HB3 hb4;obtain⟨wq,eq⟩:=ai (w4.alloc (.cells #[.int .u8 32] 5));have hbq:aj w4 wq:=dM eq;have HNQ:=hid (show wq.heap[w4.heap.size]?=some (.cells #[.int .u8 32] 5 (0,0))from by rw[<-eq];exact aK _ _);have HFq:=hid (own_below hown4 hbq);have HBq:=hid (hB4.trans (hbq.mono hB4.size));have hdq:=HBq.o.size;clear hbq hown4 hB4;go_wp2_with (at_builtin;refine tV rfl (.tmp 23) (.tmp 24) rfl w.heap.size v4 (K.length+I1.length+1+I2.length) (Lib.byteCells K++(Lib.byteCells I1++[.int .u8 46])++Lib.byteCells I2) rfl HFq.o w4.heap.size rfl 32 HNQ.o (by omega) hdq ?_);intro v7 w7 hown7 hg7 hat7;have HF7:=hid (show w7.ownsRow w.heap.size 5 1 v7 (jw (l.take (k+1))).length (Lib.byteCells (jw (l.take (k+1))))from by
    have e1:(K++I1++[46]++I2++[32]).length=K.length+I1.length+1+I2.length+1:=by simp[Nat.add_assoc];omega
    have e2:Lib.byteCells (K++I1++[46]++I2++[32])=Lib.byteCells K++(Lib.byteCells I1++[.int .u8 46])++Lib.byteCells I2++[.int .u8 32]:=by
     rw[Lib.byteCells_append,Lib.byteCells_append,Lib.byteCells_append,Lib.byteCells_append,BH,BI,List.append_assoc (Lib.byteCells K) (Lib.byteCells I1)]
    rw[HTk.o,e1,e2];simpa only[List.append_assoc,List.cons_append,List.nil_append] using hown7)
   have HB7:=hid (HBq.o.grown hg7 hdq (fun q hq=>(iF HFq.o q hq).1));clear hown7 hg7 hat7 eq HFq HBq HNQ;go_wp2_with fail;refine⟨⟨k+1,by omega,rfl,HF7,HB7⟩,?_⟩;show n-((k:Int)+1).toNat<n-((k:Int)).toNat;omega
  ·have t1:¬ (k:Int)<(n:Int):=by omega
   have hkn:k=n:=by omega
   rw[hkn,<-HLN.o,List.take_length]at HK;have hcv:=conv95 wr w.heap.size u3 (jw l) HK.o;go_wp2_with fail;go_ret;exact⟨rfl,HB.o⟩
open Go Go.RowKit Go.Lib
open aO (It Less)
theorem KZ:(Tryz.prog.info? 110).map (fun i=>(i.zero,i.size,i.bytes))=some (some (.agg #[.int .i64 0,.int .i64 0]),2,16):=by kernel_rfl
theorem stood39:Tryz.prog.stoodInHeld 110=false:=by kernel_rfl
theorem eql39 (a b c d:Int)(w:World):(Op.equalIn 10000 110 (.agg #[.int .i64 a,.int .i64 b]) (.agg #[.int .i64 c,.int .i64 d])).run Tryz.prog w=.ok (decide (a=c) && decide (b=d)) w:=by
 have h3:∀ x y w,(Op.equalIn 9999 3 (.int .i64 x) (.int .i64 y)).run Tryz.prog w=.ok (x == y) w:=fun x y w=>eql3 9998 x y w;have p0:=fun u v w=>(Gt u v w).1;have p1:=fun u v w=>(Gt u v w).2;show(Op.equalIn (9998+1+1) 110 _ _).run Tryz.prog w=_;unfold Op.equalIn;simp[run_underlying Tryz.underlying110,stood39,h3,p0,p1];by_cases e1:a=c<;>by_cases e2:b=d<;>simp[e1,e2]
theorem aS.at_ {w:World}{o:Option Addr}{n c:Nat}{l:List It}(h:aS w (.slice o n c) l){k:Nat}{x:It}(hk:l[k]?=some x):∃ b off,o=some ⟨b,off,none⟩/\w.cell? ⟨b,off+k*2,none⟩=some (.int .i64 x.1)/\w.cell? ⟨b,off+k*2+1,none⟩=some (.int .i64 x.2):=by
 obtain⟨o',c',e,_,hcs⟩:=h;injection e with e1 e2 e3;subst e1;have hlt:=(List.getElem?_eq_some_iff.1 hk).1;obtain⟨b,off,rfl,hq⟩:=hcs (by omega);have hx:l.getD k (0,0)=x:=by rw[dL,hk];rfl
 have:=hq k hlt;dsimp only at this;rw[hx]at this;exact⟨b,off,rfl,this⟩
theorem aS.len {w:World}{v:Value}{l:List It}(h:aS w v l):∃ o c,v=.slice o l.length c/\l.length<=9223372036854775807:=by
 obtain⟨o,c,e,h1,_⟩:=h;exact⟨o,c,e,h1⟩
theorem it_eq (x y:It):(decide (x.1=y.1) && decide (x.2=y.2))=decide (x=y):=by
 by_cases h:x=y
 ·subst h;simp
 ·rw[dA h,Bool.and_eq_false_iff,decide_eq_false_iff_not,decide_eq_false_iff_not];by_cases h1:x.1=y.1
  ·exact .inr fun h2=>h (Prod.ext h1 h2)
  ·exact .inl h1
theorem Bv {w:World}{v:Value}{l:List It}(h:aS w v l)(x:It) :
  Calls Tryz.prog 90 #[v,mg x] w fun e w'=>e=.returned (.bool (decide (x∈l)))/\aj w w':=by
 obtain⟨vo,vc,rfl,hvn⟩:=h.len;obtain⟨n,hln⟩:=ai (l.length);have HLN:=hid hln;obtain⟨W1,e1⟩:=ai (w.alloc (.cells #[.int .i64 x.1,.int .i64 x.2] 110));have hb1:aj w W1:=dM e1;have n1:W1.heap[w.heap.size]?=some (.cells #[.int .i64 x.1,.int .i64 x.2] 110 (0,0)):=dO e1;have HL:=hid (h.below hb1);have HB1:=hid hb1;have HN1:=hid n1;obtain⟨r,hr⟩:=ai (decide (x∈l));have HR:=hid hr;have hs1:=hb1.size;rw[hln]at HL hvn ⊢;rw[hr];unfold mg;clear h hb1 n1 hln hr;go_enter Tryz.func90,Tryz.ntmps90;go_wp2_with fail
 go_loopw [5] (fun t5 wr=>∃ k:Nat,k<=n/\t5=.int .i64 (k:Int)/\Hid (∀ y∈l.take k,x≠y)/\Hid (aj W1 wr)) (fun t5 _=>n-(RowKit.intOf t5).toNat)
 case atStart=>exact⟨0,Nat.zero_le _,rfl,hid (by simp),hid (eH _ _)⟩
 case round =>
  obtain⟨k,hk,rfl,HX,HB⟩:=hrel;have hszr:=HB.o.size;by_cases hlt:k<n
  ·have t1:(k:Int)<(n:Int):=by omega
   have t2:(0:Int)<=(k:Int):=by omega
   have hkl:k<l.length:=by rw[HLN.o];exact hlt
   obtain⟨y,hy⟩:∃ y,l[k]?=some y:=⟨_,dH hkl⟩;have HY:=hid hy;obtain⟨lb,lo,rfl,q0,q1⟩:=HL.o.at_ hy;have HQ0:Hid (∀ w',aj wr w'->w'.cell? ⟨lb,lo+k*2,none⟩=some (.int .i64 y.1)):=hid fun w' hC=>cell_below hC (cell_below HB.o q0);have HQ1:Hid (∀ w',aj wr w'->w'.cell? ⟨lb,lo+k*2+1,none⟩=some (.int .i64 y.2)):=hid fun w' hC=>cell_below hC (cell_below HB.o q1);have HQ2:Hid (∀ w',aj wr w'->w'.cell? ⟨w.heap.size,0,none⟩=some (.int .i64 x.1)):=hid fun w' hC=>cell_below hC (cell_below HB.o (ak HN1.o 0));have HQ3:Hid (∀ w',aj wr w'->w'.cell? ⟨w.heap.size,1,none⟩=some (.int .i64 x.2)):=hid fun w' hC=>cell_below hC (cell_below HB.o (ak HN1.o 1));obtain⟨be,hbe⟩:=ai ((decide (y.1=x.1) && decide (y.2=x.2)));have hE:∀ w',(Op.equalIn 10000 110 (.agg #[.int .i64 y.1,.int .i64 y.2]) (.agg #[.int .i64 x.1,.int .i64 x.2])).run Tryz.prog w'=.ok be w':=fun w'=>by rw[<-hbe];exact eql39 _ _ _ _ w'
   have HBE:=hid (hbe.symm.trans (it_eq y x));clear hbe hy q0 q1;go_wp2_with fail;refine ah (by kernel_rfl) (by kernel_rfl) ?_;iterate 6
    with_reducible refine BigFrame.wpQuiet_want (by kernel_rfl) (fun K hK=>?_)
    apply Exists.intro;refine⟨fun w' hC=>?_,hK _ ?_⟩
    ·have f0':=HQ0.o w' hC;have f1':=HQ1.o w' hC;have f2':=HQ2.o w' hC;have f3':=HQ3.o w' hC;unfold Oper.quietAt;go_simp
     first | with_reducible rfl | done
    clear hK K;try simp only[Act.put,bP,bQ,bK]
   refine wpQuiet_nil ?_;intro w6 hb6;have HB6:=hid (HB.o.trans (hb6.mono hszr));clear hb6;cases be
   ·have HX2:=hid (show ∀ z∈l.take (k+1),x≠z from fun z hz=>by
     rw[List.take_add_one,HY.o]at hz;rcases List.mem_append.1 hz with hz | hz
     ·exact HX.o z hz
     ·have e:z=y:=(by simpa using hz);rw[e];exact fun e'=>of_decide_eq_false HBE.o.symm e'.symm)
    go_wp2_with fail;refine⟨⟨k+1,by omega,rfl,HX2,HB6⟩,?_⟩;show n-((k:Int)+1).toNat<n-((k:Int)).toNat;omega
   ·have hyx:y=x:=of_decide_eq_true HBE.o.symm;obtain rfl:true=r:=by
     rw[<-HR.o];exact(eP (by rw[<-hyx];exact List.mem_of_getElem? HY.o)).symm
    clear hyx;go_wp2_with fail;go_ret;exact⟨rfl,HB1.o.trans (HB6.o.mono hs1)⟩
  ·have t1:¬ (k:Int)<(n:Int):=by omega
   have hkn:k=n:=by omega
   obtain rfl:false=r:=by
    rw[<-HR.o];refine(dA fun hm=>HX.o x ?_ rfl).symm;rw[hkn,<-HLN.o,List.take_length];exact hm
   go_wp2_with fail;go_ret;exact⟨rfl,HB1.o.trans (HB.o.mono hs1)⟩
theorem Ej {w:World}{u v:Value}{l m:List It}(hu:aS w u l)(hv:aS w v m) :
  Calls Tryz.prog 51 #[u,v] w fun e w'=>e=.returned (.bool (decide (l=m)))/\aj w w':=by
 obtain⟨uo,uc,rfl,hun⟩:=hu.len;obtain⟨vo,vc,rfl,hvn⟩:=hv.len;obtain⟨r,hr⟩:=ai (decide (l=m));have HR:=hid hr;rw[hr];obtain⟨n,hln⟩:=ai (l.length);obtain⟨n',hmn⟩:∃ n',m.length=n':=⟨_,rfl⟩;have HLN:=hid hln;have HMN:=hid hmn;have HU:=hid hu;have HV:=hid hv;rw[hln]at HU hun ⊢;rw[hmn]at HV hvn ⊢;clear hu hv hln hmn hr;by_cases hnn:n=n'
 case neg =>
  obtain rfl:false=r:=by
   rw[<-HR.o];refine(dA fun e=>hnn ?_).symm;rw[<-HLN.o,<-HMN.o,e]
  have t0:((n:Int) == (n':Int))=false:=by rw[beq_eq_false_iff_ne];omega
  have t1:¬ (n:Int)=(n':Int):=by omega
  go_enter Tryz.func51,Tryz.ntmps51;go_wp2_with fail;go_ret;exact⟨rfl,eH _ _⟩
 subst hnn;go_enter Tryz.func51,Tryz.ntmps51;go_wp2_with fail
 go_loopw [5] (fun t5 wr=>∃ k:Nat,k<=n/\t5=.int .i64 (k:Int)/\Hid (l.take k=m.take k)/\Hid (aj w wr)) (fun t5 _=>n-(RowKit.intOf t5).toNat)
 case atStart=>exact⟨0,Nat.zero_le _,rfl,hid (by simp),hid (eH _ _)⟩
 case round =>
  obtain⟨k,hk,rfl,HX,HB⟩:=hrel;have hszr:=HB.o.size;by_cases hlt:k<n
  ·have t1:(k:Int)<(n:Int):=by omega
   have t2:(0:Int)<=(k:Int):=by omega
   obtain⟨x,hx⟩:∃ x,l[k]?=some x:=⟨_,dH (by rw[HLN.o];exact hlt)⟩;obtain⟨y,hy⟩:∃ y,m[k]?=some y:=⟨_,dH (by rw[HMN.o];exact hlt)⟩;have HXX:=hid hx;have HYY:=hid hy;obtain⟨lb,lo,rfl,p0,p1⟩:=HU.o.at_ hx;obtain⟨mb,mo,rfl,q0,q1⟩:=HV.o.at_ hy;have HQ0:Hid (∀ w',aj wr w'->w'.cell? ⟨lb,lo+k*2,none⟩=some (.int .i64 x.1)):=hid fun w' hC=>cell_below hC (cell_below HB.o p0);have HQ1:Hid (∀ w',aj wr w'->w'.cell? ⟨lb,lo+k*2+1,none⟩=some (.int .i64 x.2)):=hid fun w' hC=>cell_below hC (cell_below HB.o p1);have HQ2:Hid (∀ w',aj wr w'->w'.cell? ⟨mb,mo+k*2,none⟩=some (.int .i64 y.1)):=hid fun w' hC=>cell_below hC (cell_below HB.o q0);have HQ3:Hid (∀ w',aj wr w'->w'.cell? ⟨mb,mo+k*2+1,none⟩=some (.int .i64 y.2)):=hid fun w' hC=>cell_below hC (cell_below HB.o q1);obtain⟨be,hbe⟩:=ai ((decide (x.1=y.1) && decide (x.2=y.2)));have hE:∀ w',(Op.equalIn 10000 110 (.agg #[.int .i64 x.1,.int .i64 x.2]) (.agg #[.int .i64 y.1,.int .i64 y.2])).run Tryz.prog w'=.ok be w':=fun w'=>by rw[<-hbe];exact eql39 _ _ _ _ w'
   have HBE:=hid (hbe.symm.trans (it_eq x y));clear hbe hx hy p0 p1 q0 q1;cases be
   ·obtain rfl:false=r:=by
     rw[<-HR.o];refine(dA fun e=>?_).symm;have h1:=HXX.o;rw[e,HYY.o]at h1;injection h1 with h1;exact of_decide_eq_false HBE.o.symm h1.symm
    go_wp2_with fail;refine ah (by kernel_rfl) (by kernel_rfl) ?_;iterate 9
     with_reducible refine BigFrame.wpQuiet_want (by kernel_rfl) (fun K hK=>?_)
     apply Exists.intro;refine⟨fun w' hC=>?_,hK _ ?_⟩
     ·have f0':=HQ0.o w' hC;have f1':=HQ1.o w' hC;have f2':=HQ2.o w' hC;have f3':=HQ3.o w' hC;unfold Oper.quietAt;go_simp
      first | with_reducible rfl | done
     clear hK K;try simp only[Act.put,bP,bQ,bK]
    refine wpQuiet_nil ?_;intro w6 hb6;have HB6:=hid (HB.o.trans (hb6.mono hszr));clear hb6;go_wp2_with fail;go_ret;exact⟨rfl,HB6.o⟩
   ·have HX2:=hid (show l.take (k+1)=m.take (k+1)from by
     rw[List.take_add_one,List.take_add_one,HXX.o,HYY.o,HX.o,of_decide_eq_true HBE.o.symm])
    go_wp2_with fail;refine ah (by kernel_rfl) (by kernel_rfl) ?_;iterate 9
     with_reducible refine BigFrame.wpQuiet_want (by kernel_rfl) (fun K hK=>?_)
     apply Exists.intro;refine⟨fun w' hC=>?_,hK _ ?_⟩
     ·have f0':=HQ0.o w' hC;have f1':=HQ1.o w' hC;have f2':=HQ2.o w' hC;have f3':=HQ3.o w' hC;unfold Oper.quietAt;go_simp
      first | with_reducible rfl | done
     clear hK K;try simp only[Act.put,bP,bQ,bK]
    refine wpQuiet_nil ?_;intro w6 hb6;have HB6:=hid (HB.o.trans (hb6.mono hszr));clear hb6;go_wp2_with fail;refine⟨⟨k+1,by omega,rfl,HX2,HB6⟩,?_⟩;show n-((k:Int)+1).toNat<n-((k:Int)).toNat;omega
  ·have t1:¬ (k:Int)<(n:Int):=by omega
   have hkn:k=n:=by omega
   obtain rfl:true=r:=by
    rw[<-HR.o];refine(eP ?_).symm;have h1:=HX.o;rw[hkn]at h1;rw[show l=l.take n from by rw[<-HLN.o,List.take_length],h1,<-HMN.o,List.take_length]
   go_wp2_with fail;go_ret;exact⟨rfl,HB.o⟩
end Go.Proofs.YticmnfmijdgmbaaGreatDoor
