import Derived.Carry
import Derived.ChangeKeysEq
import Derived.Laws.StructEq
import Derived.Test.YticmnfmijdgmbaaGreatDoorWc
import Derived.Test.YticmnfmijdgmbaaGreatDoorZs
set_option linter.all false
set_option maxRecDepth 100000
set_option maxHeartbeats 16000000
namespace Go.Proofs.YticmnfmijdgmbaaGreatDoor
open Go Go.RowKit Go.Lib
open aO (It exG aP ag aN dn ax aY bg)
open aJ (u64 aZ top E0 F0 fM gu)
open wQ
open aJ.cZ (Pl dm dJ places bi)
theorem GX {cnt:Nat->Nat->Nat}{m i:Nat} : ∀ {n:Nat},i<=n->∃ r,jG cnt m n=jG cnt m i++r
 | 0, h => ⟨[], by obtain rfl : i = 0 := by omega
                   rfl⟩
 | n+1,h=>by
  by_cases e:i=n+1
  ·exact⟨[],by rw[e,List.append_nil]⟩
  ·obtain⟨r,hr⟩:=GX (cnt:=cnt) (m:=m) (i:=i) (n:=n) (by omega);exact⟨r++dW cnt n m,by rw[jG,hr,List.append_assoc]⟩
theorem Ad {cnt:Nat->Nat->Nat}{i k:Nat} : ∀ {m:Nat},k<=m->∃ r,dW cnt i m=dW cnt i k++r
 | 0, h => ⟨[], by obtain rfl : k = 0 := by omega
                   rfl⟩
 | m+1,h=>by
  by_cases e:k=m+1
  ·exact⟨[],by rw[e,List.append_nil]⟩
  ·obtain⟨r,hr⟩:=Ad (cnt:=cnt) (i:=i) (k:=k) (m:=m) (by omega);exact⟨r++(if 1<cnt i m then [((i:Int),(m:Int))]else []),by rw[dW,hr,List.append_assoc]⟩
theorem cl_at {cnt:Nat->Nat->Nat}{m n i k:Nat}(hi:i<n)(hk:k<m)(h:1<cnt i k):(jG cnt m i++dW cnt i k).length<(jG cnt m n).length/\(jG cnt m n).getD (jG cnt m i++dW cnt i k).length (0,0)=((i:Int),(k:Int)):=by
 obtain⟨r1,h1⟩:=GX (cnt:=cnt) (m:=m) (show i+1<=n by omega);obtain⟨r2,h2⟩:=Ad (cnt:=cnt) (i:=i) (show k+1<=m by omega);have e:jG cnt m n=(jG cnt m i++dW cnt i k)++(((i:Int),(k:Int))::(r2++r1)):=by
  rw[h1,jG,h2,dW,if_pos h];simp
 rw[e];generalize jG cnt m i++dW cnt i k=P;constructor
 ·rw[List.length_append,List.length_cons];omega
 ·rw[dL,List.getElem?_append_right (bJ _),Nat.sub_self];rfl
theorem CJ (w:World)(p:Nat->Value->Prop):bz w (.slice none 0 0) 0 p:=⟨none,0,rfl,by omega,fun h=>absurd h (by omega)⟩
theorem Jb {G:GD}{a w4 b w5 c w6:World}{e4 e5 e6:Ending}(h4:Hq G a e4 w4)(h5:He G b e5 w5)(h6:qP G c e6 w6):∃ (er:Int) (n:Nat) (D:Nat->Nat->List It) (lo:Option Addr) (lc:Nat) (mo:Option Addr) (mc:Nat) (co:Option Addr) (cc:Nat),
  e4=.returned (.tuple #[.slice lo n lc,.int .i64 er])/\e5=.returned (.tuple #[.slice mo n mc,.int .i64 er])/\e6=.returned (.slice co (jG (iW D) (G.terms.length+1) n).length cc)/\n<=2000 /\
  bz w4 (.slice lo n lc) n (fun i u=>bz w4 u (G.terms.length+1) (fun k u'=>aS w4 u' (D i k)))/\bz w5 (.slice mo n mc) n (fun i u=>bz w5 u (G.terms.length+1) (fun k u'=>aS w5 u' (D i k))) /\
  aS w6 (.slice co (jG (iW D) (G.terms.length+1) n).length cc) (jG (iW D) (G.terms.length+1) n):=by
 have none_case:∀ er:Int,e4=.returned (.tuple #[.slice none 0 0,.int .i64 er])->e5=.returned (.tuple #[.slice none 0 0,.int .i64 er])->e6=.returned (.slice none 0 0)->∃ (er:Int) (n:Nat) (D:Nat->Nat->List It) (lo:Option Addr) (lc:Nat) (mo:Option Addr) (mc:Nat) (co:Option Addr) (cc:Nat),
  e4=.returned (.tuple #[.slice lo n lc,.int .i64 er])/\e5=.returned (.tuple #[.slice mo n mc,.int .i64 er])/\e6=.returned (.slice co (jG (iW D) (G.terms.length+1) n).length cc)/\n<=2000 /\
  bz w4 (.slice lo n lc) n (fun i u=>bz w4 u (G.terms.length+1) (fun k u'=>aS w4 u' (D i k)))/\bz w5 (.slice mo n mc) n (fun i u=>bz w5 u (G.terms.length+1) (fun k u'=>aS w5 u' (D i k))) /\
  aS w6 (.slice co (jG (iW D) (G.terms.length+1) n).length cc) (jG (iW D) (G.terms.length+1) n):=fun er h1 h2 h3 =>
  ⟨er,0,fun _ _=>[],none,0,none,0,none,0,h1,h2,h3,by omega,CJ _ _,CJ _ _,⟨none,0,rfl,(by show(0:Nat)<=_;omega),fun h=>absurd h (Nat.lt_irrefl 0)⟩⟩
 obtain⟨_,h4⟩:=h4;obtain⟨_,h5⟩:=h5;obtain⟨_,h6⟩:=h6;rcases h4 with⟨v4,r4⟩ | ⟨v4,n,⟨m4,r4⟩ | ⟨o4,v,A,r4,L4,R4⟩⟩
 ·rcases h5 with⟨er,⟨rfl,v5⟩ | ⟨rfl,_,_,v5⟩,r5⟩ | ⟨v5,_⟩
  ·rcases h6 with⟨_,r6⟩ | ⟨v6,_⟩
   ·exact none_case 1 r4 r5 r6
   ·rw[v4]at v6;cases v6
  ·rw[v4]at v5;cases v5
  ·rw[v4]at v5;cases v5
 ·rcases h5 with⟨er,⟨rfl,v5⟩ | ⟨rfl,_,_,v5⟩,r5⟩ | ⟨v5,n5,o5,_⟩
  ·rw[v4]at v5;cases v5
  ·rcases h6 with⟨v6,_⟩ | ⟨_,n6,⟨_,r6⟩ | ⟨o6,_⟩⟩
   ·rw[v4]at v6;cases v6
   ·exact none_case 4 r4 r5 r6
   ·exact(aO.fB.not o6 m4).elim
  ·exact(aO.fB.not o5 m4).elim
 ·rcases h5 with⟨er,⟨rfl,v5⟩ | ⟨rfl,_,m5,v5⟩,r5⟩ | ⟨v5,n5,o5,x,A5,r5,L5,R5⟩
  ·rw[v4]at v5;cases v5
  ·exact(aO.fB.not o4 m5).elim
  ·rcases h6 with⟨v6,_⟩ | ⟨_,n6,⟨m6,_⟩ | ⟨o6,y,A6,r6,L6,R6⟩⟩
   ·rw[v4]at v6;cases v6
   ·exact(aO.fB.not o4 m6).elim
   ·obtain rfl:=aO.fB.one o4 o5;obtain rfl:=aO.fB.one o4 o6;obtain rfl:A=A5:=funext fun q=>L4.one L5 q;obtain rfl:A=A6:=funext fun q=>L4.one L6 q;obtain⟨lo,lc,rfl,_⟩:=R4.len;obtain⟨mo,mc,rfl,_⟩:=R5.len;obtain⟨co,cc,rfl⟩:=R6.shape;exact⟨0,n,_,lo,lc,mo,mc,co,cc,r4,r5,r6,yF o4,R4,R5,aI.items R6⟩
theorem shape4 {G:GD}{a w4:World}{e:Ending}(h:Hq G a e w4):∃ lo ln lc er,e=.returned (.tuple #[.slice lo ln lc,.int .i64 er]):=by
 obtain⟨_,h⟩:=h;rcases h with⟨_,r⟩ | ⟨_,n,⟨_,r⟩ | ⟨_,v,A,r,_,R⟩⟩
 ·exact⟨_,_,_,_,r⟩
 ·exact⟨_,_,_,_,r⟩
 ·obtain⟨lo,lc,rfl,_⟩:=R.len;exact⟨_,_,_,_,r⟩
theorem shape5 {G:GD}{a w4:World}{e:Ending}(h:He G a e w4):∃ lo ln lc er,e=.returned (.tuple #[.slice lo ln lc,.int .i64 er]):=by
 obtain⟨_,h⟩:=h;rcases h with⟨er,_,r⟩ | ⟨_,n,_,v,A,r,_,R⟩
 ·exact⟨_,_,_,_,r⟩
 ·obtain⟨lo,lc,rfl,_⟩:=R.len;exact⟨_,_,_,_,r⟩
theorem shape6 {G:GD}{a w4:World}{e:Ending}(h:qP G a e w4):∃ lo ln lc,e=.returned (.slice lo ln lc):=by
 obtain⟨_,h⟩:=h;rcases h with⟨_,r⟩ | ⟨_,n,⟨_,r⟩ | ⟨_,v,A,r,_,R⟩⟩
 ·exact⟨_,_,_,r⟩
 ·exact⟨_,_,_,r⟩
 ·obtain⟨lo,lc,rfl⟩:=R.shape;exact⟨_,_,_,r⟩
theorem FB {G:GD}{a w4 b w5 c w6:World}{lo mo co:Option Addr}{ln lc mn mc cn cc:Nat}{er fr:Int}(h4:Hq G a (.returned (.tuple #[.slice lo ln lc,.int .i64 er])) w4)(h5:He G b (.returned (.tuple #[.slice mo mn mc,.int .i64 fr])) w5)(h6:qP G c (.returned (.slice co cn cc)) w6) :
  fr=er/\mn=ln/\∃ D,(jG (iW D) (G.terms.length+1) ln).length=cn/\ln<=2000/\bz w4 (.slice lo ln lc) ln (fun i u=>bz w4 u (G.terms.length+1) (fun k u'=>aS w4 u' (D i k)))/\bz w5 (.slice mo mn mc) ln (fun i u=>bz w5 u (G.terms.length+1) (fun k u'=>aS w5 u' (D i k))) /\
  aS w6 (.slice co cn cc) (jG (iW D) (G.terms.length+1) ln):=by
 obtain⟨er',n,D,lo',lc',mo',mc',co',cc',e4,e5,e6,g1,g2,g3,g4⟩:=Jb h4 h5 h6;injection e4 with e4;injection e5 with e5;injection e6 with e6;simp only[Value.tuple.injEq,Array.mk.injEq,List.cons.injEq,Value.slice.injEq,Value.int.injEq,and_true,true_and]at e4 e5;obtain⟨⟨rfl,rfl,rfl⟩,rfl⟩:=e4;obtain⟨⟨rfl,rfl,rfl⟩,rfl⟩:=e5;injection e6 with x1 x2 x3;subst x1 x2 x3;exact⟨rfl,rfl,D,rfl,g1,g2,g3,g4⟩
theorem eq94 (w:World)(a b:Int):(Op.equalIn 10000 94 (.agg #[.int .i64 a,.int .i64 b]) (.agg #[.int .i64 a,.int .i64 b])).run Tryz.prog w=.ok true w:=by
 obtain⟨i,hi,_,hs,_⟩:=info_parts info3;have hc:Tryz.prog.cellsOf 3=1:=by kernel_rfl
 have hp:∀ j v,((#[.int .i64 a,.int .i64 b]:Array Value)[j]?=some v)->(part 3 #[.int .i64 a,.int .i64 b] j).run Tryz.prog w=.ok v w:=fun j v hj=>by
  match j,hj with
  | 0,hj=>obtain rfl:=Option.some.inj hj;go_simp
  | 1,hj=>obtain rfl:=Option.some.inj hj;go_simp
  | j+2,hj=>simp at hj
 have hq:∀ z:Int,(Op.equalIn 9999 3 (.int .i64 z) (.int .i64 z)).run Tryz.prog w=.ok true w:=fun z=>by
  rw[run_equalIn_int w 9998 3 .i64 .i64 z z Tryz.underlying3];simp
 rw[show(10000:Nat)=9999+1 from rfl,run_equalIn_array w 9999 _ _ Tryz.underlying94 hi,hc,show List.range 2=[0,1]from rfl];have hp0:=hp 0 (.int .i64 a) rfl;have hp1:=hp 1 (.int .i64 b) rfl;simp only[Op.eqItems,Sem.run_bind,hp0,hp1,hq,Result.andThen_ok,Nat.zero_mul,Nat.one_mul,Bool.not_true,Bool.false_eq_true,if_false,Sem.run_pure]
theorem guard94:Tryz.prog.eqGuardType Tryz.prog.depth 94=false:=by kernel_rfl
theorem Ar {ops:Array Oper}{rest:List Oper}{o:Oper}{a:Act}{w:World}{Q:Exit->Act->World->Prop}(hw:Region.wanted o (yielded ops a.tmps)=true)(x y:Operand)(ho:o.op=.binOp .neq 94 x y 94)(i k:Int)
  (hx:a.eval x=.agg #[.int .i64 i,.int .i64 k]) (hy:a.eval y=.agg #[.int .i64 i,.int .i64 k])
  (h:wpList Tryz.prog ops Q rest (a.put o.dst (.bool false)) w):wpList Tryz.prog ops Q (o::rest) a w:=by
 refine BigFrame.wpList_want hw fun K hK=>?_;unfold Oper.wp execOp;simp only[ho,hx,hy,Sem.run_bind,run_eqGuard_agg w .neq 94 x y _ _ guard94,run_neq_struct,eq94,Result.andThen_ok,Sem.run_pure,Bool.not_true];exact hK _ _ h
theorem eU.len' {v:Value}{n:Nat}{p:Nat->Nat->Nat->Prop}(h:eU v n p):∃ o c,v=.slice o n c/\n<=9223372036854775807:=by
 obtain⟨o,c,e,h1,_⟩:=h;exact⟨o,c,e,h1⟩
theorem yj {w:World}{o:Option Addr}{n c:Nat}{l:List It}(h:aS w (.slice o n c) l){j:Nat}(hj:j<l.length):∃ b off,o=some ⟨b,off,none⟩/\w.cell? ⟨b,off+j*2,none⟩=some (.int .i64 (l.getD j (0,0)).1)/\w.cell? ⟨b,off+j*2+1,none⟩=some (.int .i64 (l.getD j (0,0)).2):=by
 obtain⟨a,c',e,_,hx⟩:=h;injection e with e1 _ _;subst e1;obtain⟨b,off,e2,hq⟩:=hx (by omega);exact⟨b,off,e2,(hq j hj).1,(hq j hj).2⟩
theorem FC {G:GD}{gv:Value}{w:World}{Bt:Nat}(h:fZ w gv G)(ht:Tab Bt w)(hBt:Bt<=w.heap.size) :
  Calls Tryz.prog 8 #[gv] w fun e w'=>e=.returned (.bool true)/\aj w w':=by
 have HGr:=hid h;have HT:=hid ht;obtain⟨tv,ov,sv,pv,tf,rv,h⟩:=h;have HGA:=hid h;have hgv:=h.eq;subst hgv;obtain⟨W1,e1⟩:=ai (w.alloc (.cells #[tv,ov,sv,pv,.int .i64 G.start] 27));have hb1:aj w W1:=dM e1;have n1:W1.heap[w.heap.size]?=some (.cells #[tv,ov,sv,pv,.int .i64 G.start] 27 (0,0)):=dO e1;have HB1:=hid hb1;have HN1:=hid n1;have KW:=hid (BR W1 (ht.on (hb1.mono hBt)) (eX hBt hb1.size));clear h hb1 n1 ht;go_enter Tryz.func8,Tryz.ntmps8;go_wp2_with fail;refine KW.o.mono ?_;rintro e w2 ⟨rfl,hb2⟩;have HB2:=fJ HB1 hb2;have HN2:=hid ((hb2.block _ (dZ HN1.o)).trans HN1.o);obtain⟨c0,c1,c2,c3,c4⟩:=cells5 HN2.o;have KF:=hid (FO (HGr.o.below HB2.o));clear hb2 KW e1;go_wp2_with fail;refine KF.o.mono ?_;rintro e w3 ⟨fw,rfl,hb3⟩;have HB3:=fJ HB2 hb3;have HN3:=hid ((hb3.block _ (dZ HN2.o)).trans HN2.o);clear hb3 KF c0 c1 c2 c3 c4;cases fw
 ·go_wp2_with fail;go_ret;exact⟨rfl,HB3.o⟩
 obtain⟨c0,c1,c2,c3,c4⟩:=cells5 HN3.o;have KA:=hid (yQ (HGr.o.below HB3.o) (HT.o.on (HB3.o.mono hBt)) (eX hBt HB3.o.size));go_wp2_with fail;refine KA.o.mono ?_;rintro e w4 h4;obtain⟨lo,ln,lc,er,rfl⟩:=shape4 h4;have HA4:=hid h4;have HB4:=hid (HB3.o.trans (h4.1.mono HB3.o.size));have HN4:=hid ((h4.1.block _ (dZ HN3.o)).trans HN3.o);clear h4 KA c0 c1 c2 c3 c4;obtain⟨c0,c1,c2,c3,c4⟩:=cells5 HN4.o;have KA:=hid (Jd (HGr.o.below HB4.o));go_wp2_with fail;refine KA.o.mono ?_;rintro e w5 h5;obtain⟨mo,mn,mc,fr,rfl⟩:=shape5 h5;have HA5:=hid h5;have HB5:=hid (HB4.o.trans (h5.1.mono HB4.o.size));have HN5:=hid ((h5.1.block _ (dZ HN4.o)).trans HN4.o);have HX5:=hid h5.1;clear h5 KA c0 c1 c2 c3 c4;obtain⟨c0,c1,c2,c3,c4⟩:=cells5 HN5.o;have KA:=hid (wJ (HGr.o.below HB5.o) (HT.o.on (HB5.o.mono hBt)) (eX hBt HB5.o.size));go_wp2_with fail;refine KA.o.mono ?_;rintro e w6 h6;obtain⟨co,cn,cc,rfl⟩:=shape6 h6;have HB6:=hid (HB5.o.trans (h6.1.mono HB5.o.size));have HX6:=hid h6.1;have HX46:=hid (HX5.o.trans (h6.1.mono HX5.o.size));obtain⟨rfl,rfl,D,hcn,hln,hR4,hR5,hI6⟩:=FB HA4.o HA5.o h6;obtain⟨TT,hTT⟩:=ai (G.terms.length+1);rw[hTT]at hcn hR4 hR5 hI6;have HCN:=hid hcn;have HLN:=hid hln;have HR4:=hid hR4;have HR5:=hid hR5;have HI6:=hid hI6;have ln2:(mn:Int)<=2000:=by omega
 have z1:(fr != fr)=false:=by simp
 have z2:((mn:Int) != (mn:Int))=false:=by simp
 clear h6 KA c0 c1 c2 c3 c4 hcn hR4 hR5 hI6 hTT HA4 HA5 hln;go_wp2_with fail;clear z1 z2
 go_loopw [10,11] (fun t10 t11 wr=>∃ (i q:Nat),i<=mn/\t10=.int .i64 (q:Int)/\t11=.int .i64 (i:Int)/\Hid (q=(jG (iW D) TT i).length/\aj w6 wr)) (fun _ t11 _=>mn-(RowKit.intOf t11).toNat)
 case atStart=>exact⟨0,0,Nat.zero_le _,rfl,rfl,hid ⟨rfl,eH _ _⟩⟩
 case round =>
  obtain⟨i,q,hi,rfl,rfl,HQ⟩:=hrel;by_cases hlt:i<mn
  ·have j1:(i:Int)<(mn:Int):=by omega
   have j0:(0:Int)<=(i:Int):=by omega
   have HIM:=hid hlt;obtain⟨b1,o1,u1,rfl,x1,x2⟩:=HR4.o.at_ hlt;obtain⟨p1,r1,rfl,hTTm⟩:=x2.len;obtain⟨b2,o2,u2,rfl,y1,y2⟩:=HR5.o.at_ hlt;obtain⟨p2,r2,rfl,_⟩:=y2.len;have HX1:=hid x1;have HY1:=hid y1;have HX2:=hid x2;have HY2:=hid y2;have HTM:=hid hTTm;have HW:=hid (HX46.o.trans (HQ.o.2.mono HX46.o.size));have HV:=hid (HX6.o.trans (HQ.o.2.mono HX6.o.size));have Z0:=hid (show ∀ w',aj wr w'->ay w' b1 (o1+i) (.slice p1 TT r1)from fun w' hC=>cell_below (HW.o.trans (hC.mono HW.o.size)) HX1.o);have Z1:=hid (show ∀ w',aj wr w'->ay w' b2 (o2+i) (.slice p2 TT r2)from fun w' hC=>cell_below (HV.o.trans (hC.mono HV.o.size)) HY1.o);have z3:((TT:Int) != (TT:Int))=false:=by simp
   clear x1 x2 y1 y2 hTTm;go_wp2_with fail;refine ah (by kernel_rfl) (by kernel_rfl) ?_;iterate 11
    with_reducible refine BigFrame.wpQuiet_want (by kernel_rfl) (fun K hK=>?_)
    apply Exists.intro;refine⟨fun w' hC=>?_,hK _ ?_⟩
    ·have f0':=Z0.o w' hC;have f1':=Z1.o w' hC;unfold Oper.quietAt;go_simp
     first | with_reducible rfl | done
    clear hK K;try simp only[Act.put,bP,bQ,bK]
   refine wpQuiet_nil ?_;intro w7 hb7;have HK:=hid (show q=(jG (iW D) TT i++dW (iW D) i 0).length/\aj w6 w7 from⟨by rw[HQ.o.1];unfold dW;rw[List.append_nil],HQ.o.2.trans (hb7.mono HQ.o.2.size)⟩);clear hb7 Z0 Z1 HW HV HQ;go_wp2_with fail;clear z3
   go_loopw [10,12] (fun t10 t12 wr=>∃ (k q:Nat),k<=TT/\t10=.int .i64 (q:Int)/\t12=.int .i64 (k:Int)/\Hid (q=(jG (iW D) TT i++dW (iW D) i k).length/\aj w6 wr)) (fun _ t12 _=>TT-(RowKit.intOf t12).toNat)
   case atStart=>exact⟨0,q,Nat.zero_le _,rfl,rfl,HK⟩
   case round =>
    clear HK;obtain⟨k,q,hk,rfl,rfl,HK⟩:=hrel;have HW:=hid (HX46.o.trans (HK.o.2.mono HX46.o.size));have HV:=hid (HX6.o.trans (HK.o.2.mono HX6.o.size));have d1:=cell_below HW.o HX1.o;by_cases hkl:k<TT
    ·have k1:(k:Int)<(TT:Int):=(by omega);have k0:(0:Int)<=(k:Int):=(by omega);have k9:(k:Int)+1<=9223372036854775807:=by have:=HTM.o;omega
     obtain⟨b3,o3,u3,rfl,x3,x4⟩:=HX2.o.at_ hkl;obtain⟨p3,r3,rfl,hDL⟩:=(show eU _ _ _ from x4).len';obtain⟨b4,o4,u4,rfl,y3,y4⟩:=HY2.o.at_ hkl;obtain⟨p4,r4,rfl,_⟩:=(show eU _ _ _ from y4).len';obtain⟨DL,hD0⟩:=ai ((D i k).length);rw[hD0]at x3 y3 hDL;have HD:=hid (show(D i k).length=DL/\iW D i k=DL from⟨hD0,hD0⟩);have HX3:=hid x3;have HY3:=hid y3;have HX4:=hid x4;have HY4:=hid y4;have HKT:=hid hkl;have Z0:=hid (show ∀ w',aj wr w'->ay w' b1 (o1+i) (.slice (some ⟨b3,o3,none⟩) TT r1)from fun w' hC=>cell_below (HW.o.trans (hC.mono HW.o.size)) HX1.o);have Z1:=hid (show ∀ w',aj wr w'->ay w' b2 (o2+i) (.slice (some ⟨b4,o4,none⟩) TT r2)from fun w' hC=>cell_below (HV.o.trans (hC.mono HV.o.size)) HY1.o);have Z2:=hid (show ∀ w',aj wr w'->ay w' b3 (o3+k) (.slice p3 DL r3)from fun w' hC=>cell_below (HW.o.trans (hC.mono HW.o.size)) HX3.o);have Z3:=hid (show ∀ w',aj wr w'->ay w' b4 (o4+k) (.slice p4 DL r4)from fun w' hC=>cell_below (HV.o.trans (hC.mono HV.o.size)) HY3.o);have z3:((DL:Int) != (DL:Int))=false:=by simp
     clear x3 x4 y3 y4 hD0;go_wp2_with fail;clear d1;refine ah (by kernel_rfl) (by kernel_rfl) ?_;iterate 17
      with_reducible refine BigFrame.wpQuiet_want (by kernel_rfl) (fun K hK=>?_)
      apply Exists.intro;refine⟨fun w' hC=>?_,hK _ ?_⟩
      ·have f0':=Z0.o w' hC;have f1':=Z1.o w' hC;have f2':=Z2.o w' hC;have f3':=Z3.o w' hC;unfold Oper.quietAt;go_simp
       first | with_reducible rfl | done
      clear hK K;try simp only[Act.put,bP,bQ,bK]
     refine wpQuiet_nil ?_;intro w8 hb8;have HJ:=hid (HK.o.2.trans (hb8.mono HK.o.2.size));clear hb8 Z0 Z1 Z2 Z3 HW HV;go_wp2_with fail;clear z3
     go_loopw [13] (fun t13 wr=>∃ j:Nat,j<=DL/\t13=.int .i64 (j:Int)/\Hid (aj w6 wr)) (fun t13 _=>DL-(RowKit.intOf t13).toNat)
     case atStart=>exact⟨0,Nat.zero_le _,rfl,HJ⟩
     case round =>
      clear HJ;obtain⟨j,hj,rfl,HJ⟩:=hrel;have HW:=hid (HX46.o.trans (HJ.o.mono HX46.o.size));have HV:=hid (HX6.o.trans (HJ.o.mono HX6.o.size));have d1:=cell_below HW.o HX1.o;have d2:=cell_below HW.o HX3.o;by_cases hjl:j<DL
      ·have l1:(j:Int)<(DL:Int):=(by omega);have l0:(0:Int)<=(j:Int):=(by omega);have l9:(j:Int)+1<=9223372036854775807:=(by omega);obtain⟨b5,o5,rfl,x5,x6⟩:=yj HX4.o (by rw[HD.o.1];exact hjl);obtain⟨b6,o6,rfl,y5,y6⟩:=yj HY4.o (by rw[HD.o.1];exact hjl);obtain⟨xx,hxx⟩:=ai ((D i k).getD j (0,0));rw[hxx]at x5 x6 y5 y6;clear hxx;obtain⟨a1,a2⟩:=xx;have Z0:=hid (show ∀ w',aj wr w'->ay w' b1 (o1+i) (.slice (some ⟨b3,o3,none⟩) TT r1)from fun w' hC=>cell_below (HW.o.trans (hC.mono HW.o.size)) HX1.o);have Z1:=hid (show ∀ w',aj wr w'->ay w' b2 (o2+i) (.slice (some ⟨b4,o4,none⟩) TT r2)from fun w' hC=>cell_below (HV.o.trans (hC.mono HV.o.size)) HY1.o);have Z2:=hid (show ∀ w',aj wr w'->ay w' b3 (o3+k) (.slice (some ⟨b5,o5,none⟩) DL r3)from fun w' hC=>cell_below (HW.o.trans (hC.mono HW.o.size)) HX3.o);have Z3:=hid (show ∀ w',aj wr w'->ay w' b4 (o4+k) (.slice (some ⟨b6,o6,none⟩) DL r4)from fun w' hC=>cell_below (HV.o.trans (hC.mono HV.o.size)) HY3.o);have Z4:=hid (show ∀ w',aj wr w'->ay w' b5 (o5+j*2) (.int .i64 a1)from fun w' hC=>cell_below (HW.o.trans (hC.mono HW.o.size)) x5);have Z5:=hid (show ∀ w',aj wr w'->ay w' b5 (o5+j*2+1) (.int .i64 a2)from fun w' hC=>cell_below (HW.o.trans (hC.mono HW.o.size)) x6);have Z6:=hid (show ∀ w',aj wr w'->ay w' b6 (o6+j*2) (.int .i64 a1)from fun w' hC=>cell_below (HV.o.trans (hC.mono HV.o.size)) y5);have Z7:=hid (show ∀ w',aj wr w'->ay w' b6 (o6+j*2+1) (.int .i64 a2)from fun w' hC=>cell_below (HV.o.trans (hC.mono HV.o.size)) y6);have z4:(a1 != a1)=false:=(by simp);have z5:(a2 != a2)=false:=(by simp);clear x5 x6 y5 y6;go_wp2_with fail;clear d1 d2;refine ah (by kernel_rfl) (by kernel_rfl) ?_;iterate 48
        with_reducible refine BigFrame.wpQuiet_want (by kernel_rfl) (fun K hK=>?_)
        apply Exists.intro;refine⟨fun w' hC=>?_,hK _ ?_⟩
        ·have f0':=Z0.o w' hC;have f1':=Z1.o w' hC;have f2':=Z2.o w' hC;have f3':=Z3.o w' hC;have f4':=Z4.o w' hC;have f5':=Z5.o w' hC;have f6':=Z6.o w' hC;have f7':=Z7.o w' hC;unfold Oper.quietAt;go_simp
         first | with_reducible rfl | done
        clear hK K;try simp only[Act.put,bP,bQ,bK]
       refine wpQuiet_nil ?_;intro w9 hb9;have HJ9:=fJ HJ hb9;clear hb9 Z0 Z1 Z2 Z3 Z4 Z5 Z6 Z7 HW HV;go_wp2_with fail;refine⟨⟨j+1,by omega,by go_num,HJ9⟩,?_⟩;simp[RowKit.intOf];omega
      ·have l1:¬ (j:Int)<(DL:Int):=(by omega);obtain rfl:DL=j:=(by omega);by_cases hc:1<DL
       ·have c1:(1:Int)<(DL:Int):=(by omega);have c2:decide ((1:Int)<(DL:Int))=true:=eP c1;have c3:decide (1<DL)=true:=eP hc;obtain⟨hq1,hq2⟩:=cl_at (cnt:=iW D) HIM.o HKT.o (by rw[HD.o.2];exact hc);rw[<-HK.o.1,HCN.o]at hq1;rw[<-HK.o.1]at hq2;obtain⟨b7,o7,rfl,x7,x8⟩:=yj HI6.o (by rw[HCN.o];exact hq1);rw[hq2]at x7 x8;have x7:ay wr b7 (o7+q*2) (.int .i64 (i:Int)):=cell_below HJ.o x7;have x8:ay wr b7 (o7+q*2+1) (.int .i64 (k:Int)):=cell_below HJ.o x8;have q1:(q:Int)<(cn:Int):=(by omega);have q0:(0:Int)<=(q:Int):=(by omega);have HCM:=hid (show cn<=9223372036854775807 from by
         obtain⟨_,_,_,h,_⟩:=HI6.o;rw[HCN.o]at h;exact h)
        have q9:(q:Int)+1<=9223372036854775807:=by have:=HCM.o;omega
        have HK9:=hid (show q+1=(jG (iW D) TT i++dW (iW D) i (k+1)).length/\aj w6 wr from⟨by
         rw[dW,<-List.append_assoc,List.length_append,<-HK.o.1,if_pos (by rw[HD.o.2];exact hc)];rfl,HJ.o⟩)
        have q3:decide (cn<=q)=false:=dA (by omega);have q4:decide ((cn:Int)<=(q:Int))=false:=dA (by omega);have q5:¬ cn<=q:=(by omega);clear hq2 hc;go_wp2_with (refine Ar (by kernel_rfl) (.tmp 164) (.tmp 167) rfl (i:Int) (k:Int) (by kernel_rfl) (by kernel_rfl) ?_;simp only[Act.put,bP,bQ,bK]);refine⟨⟨k+1,q+1,by omega,rfl,by go_num,HK9⟩,?_⟩;simp[RowKit.intOf];omega
       ·have c1:¬ (1:Int)<(DL:Int):=(by omega);have c2:decide ((1:Int)<(DL:Int))=false:=dA c1;have c3:decide (1<DL)=false:=dA hc;have HK9:=hid (show q=(jG (iW D) TT i++dW (iW D) i (k+1)).length/\aj w6 wr from⟨by
         rw[dW,<-List.append_assoc,List.length_append,<-HK.o.1,if_neg (by rw[HD.o.2];exact hc)];rfl,HJ.o⟩)
        clear hc;go_wp2_with fail;refine⟨⟨k+1,q,by omega,rfl,by go_num,HK9⟩,?_⟩;simp[RowKit.intOf];omega
    ·have k1:¬ (k:Int)<(TT:Int):=(by omega);obtain rfl:TT=k:=(by omega);have HQ9:=hid (show q=(jG (iW D) TT (i+1)).length/\aj w6 wr from⟨by rw[HK.o.1,jG],HK.o.2⟩);go_wp2_with fail;refine⟨⟨i+1,q,by omega,rfl,by go_num,HQ9⟩,?_⟩;simp[RowKit.intOf];omega
  ·have j1:¬ (i:Int)<(mn:Int):=by omega
   obtain rfl:mn=i:=by omega
   have hqc:q=cn:=by rw[HQ.o.1];exact HCN.o
   have z3:((q:Int) == (cn:Int))=true:=by rw[hqc];simp
   have HBF:=hid (HB6.o.trans (HQ.o.2.mono HB6.o.size));clear hqc;go_wp2_with fail;go_ret;exact⟨rfl,HBF.o⟩
end Go.Proofs.YticmnfmijdgmbaaGreatDoor
/- A law's last step, for a walk that lays new memory alone: whatever lay before the call lies behind it. -/
namespace Go.Proofs.YticmnfmijdgmbaaGreatDoor
open Go Go.RowKit Go.WideShapes Go.ChangeShapes
theorem Ic {H:Type}{enc:TypeId×Value->H}{P:Program}{f:Func}{s:ChangeSpec}{apart fresh handsOn again:Bool}{W W':World}{args:Array Value}{v:Value}{ds gs:List (DataW H)}{before pa pv:List MemPlace}
  (hW:DataW.Whole enc P f.params.toList s.vars apart W args.toList ds gs before)
  (hres:∀ (b:Nat) (sp:Nat->Bool) (hd:Bool),DataW.TrodAll enc P W' b sp hd f.resultTypes.toList (v.resultList f.resultTypes.size) (s.fn H (ds++gs)).results [])
  (hargs:∀ sp:Nat->Bool,(∀ p∈before,sp p.block=true)->DataW.TrodAll enc P W' 0 sp true f.params.toList args.toList (s.fn H (ds++gs)).args pa)
  (hvars:∀ sp:Nat->Bool,(∀ p∈before,sp p.block=true)->DataW.TrodVars enc P W' sp s.vars (s.fn H (ds++gs)).vars pv)
  (hps:before=pa++pv) (hb:aj W W')
  (hok:∀ (j:Nat) (t:TypeId) (r:Value),f.resultTypes[j]?=some t->(v.resultList f.resultTypes.size)[j]?=some r->Value.okWide P W' .any 0 t r) :
  s.post enc P f apart fresh handsOn again W args v W':=by
 have old:∀ p∈before,decide (p.block<W.heap.size)=true:=fun p hp=>eP (hW.lt p hp);have inside:∀ p,p∈pa++pv->p∈before:=fun p hp=>by rw[hps];exact hp
 refine⟨ds,gs,before,[],pa,pv,hW,hres _ _ _,hargs _ old,hvars _ old,World.keptBut_mono (fun p hp=>⟨hp,?_⟩) (hb.frame (·∈before)),fun _=>⟨hok,_,_,[]++pa++pv,⟨[]++pa,pv,trodAll_append (hargs _ fun _ _=>rfl) (hres _ _ _),hvars _ fun _ _=>rfl,rfl,?_,?_⟩,?_⟩⟩
 ·exact .inr (List.mem_append.1 (hps▸hp))
 ·intro b off hp;have hW0:=hW;obtain⟨_,_,_,_,_,hz,_⟩:=hW;have hin:=inside _ (by simpa using hp);exact(hb.frozen (p:=⟨b,off,none⟩) (hW0.lt _ hin)).trans (hz b off hin)
 ·intro ha;obtain⟨_,_,_,_,_,_,hn⟩:=hW;simpa[hps] using hn ha
 ·intro p hp _;exact inside p (by simpa using hp)
end Go.Proofs.YticmnfmijdgmbaaGreatDoor
/- A law's last step, whatever the types of its parameters. -/
namespace Go.Proofs.YticmnfmijdgmbaaGreatDoor
open Go Go.RowKit Go.WideShapes Go.ChangeShapes
theorem Ee {H:Type}{enc:TypeId×Value->H}{P:Program}(hl:laidOutB P=true){W W':World}(hb:aj W W')(sp:Nat->Bool) :
  ∀ (ts:List TypeId) (vs:List Value) (ds:List (DataW H)) (ps:List MemPlace),(ts.all fun t=>P.readableRec t && decide (t<P.types.size))=true->(∀ x∈ps,x.block<W.heap.size)->(∀ x∈ps,sp x.block=true) ->
   DataW.TrodAll enc P W 0 (fun _=>true) true ts vs ds ps->DataW.TrodAll enc P W' 0 sp true ts vs ds ps
 | [],[],[],_,_,_,_,h=>h
 | t::ts,v::vs,d::ds,_,ht,hlt,hsp,h=>by
  obtain⟨p,q,h1,h2,rfl⟩:=h;simp only[List.all_cons,Bool.and_eq_true,decide_eq_true_eq]at ht;exact⟨p,q,WideElems.Trod_stays hl ht.1.1 ht.1.2 h1 (fun x hx=>hb.same (hlt x (List.mem_append_left _ hx))) (fun x hx=>hsp x (List.mem_append_left _ hx)),
   Ee hl hb sp ts vs ds q (by simpa using ht.2) (fun x hx=>hlt x (List.mem_append_right _ hx)) (fun x hx=>hsp x (List.mem_append_right _ hx)) h2,rfl⟩
 | [],[],_::_,_,_,_,_,h=>h.elim
 | [],_::_,_,_,_,_,_,h=>by cases ‹List (DataW H)›<;>exact h.elim
 | _::_,[],_,_,_,_,_,h=>by cases ‹List (DataW H)›<;>exact h.elim
 | _::_,_::_,[],_,_,_,_,h=>h.elim
theorem JI {H:Type}{enc:TypeId×Value->H}{P:Program}{f:Func}{s:ChangeSpec}{apart fresh handsOn again:Bool}{W W':World}{args:Array Value}{ds gs:List (DataW H)}{before:List MemPlace}
  (hl:laidOutB P=true) (ht:(f.params.toList.all fun t=>P.readableRec t && decide (t<P.types.size))=true) (hv:s.vars=[]) (t:TypeId) (hf:f.resultTypes=#[t]) (hu:P.underlying t=some .bool)
  (hW:DataW.Whole enc P f.params.toList s.vars apart W args.toList ds gs before)
  (hA:DataW.TrodAll enc P W 0 (fun _=>true) true f.params.toList args.toList ds before)
  (hres:(s.fn H (ds++gs)).results=[.lit (.bool true)]) (hargs:(s.fn H (ds++gs)).args=ds) (hvs:(s.fn H (ds++gs)).vars=[]) (hb:aj W W') :
  s.post enc P f apart fresh handsOn again W args (.bool true) W':=by
 have hlt:∀ x∈before,x.block<W.heap.size:=fun x hx=>hW.lt x hx;refine Ic (pa:=before) (pv:=[]) hW (fun _ _ _=>?_) (fun sp hsp=>?_) (fun sp _=>?_) (by simp) hb ?_
 ·rw[hres,hf];exact trodAll_cons_mk (shut_bool hu _) trodAll_mk0
 ·rw[hargs];exact Ee hl hb sp _ _ _ _ ht hlt hsp hA
 ·rw[hvs,hv];rfl
 ·exact ok_one hf rfl (okWide_bool_mk hu _)
end Go.Proofs.YticmnfmijdgmbaaGreatDoor
