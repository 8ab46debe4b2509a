import Derived.Ground.SlsfProg
import Derived.Laws.AppendOwn
import Derived.Maps.AppendAt
import Derived.Shelf.Lay
import Derived.Shelf.SlSortCmp.NoneTotal
import Derived.Shelf.SlSortCmp.WholeK
import Derived.Test.YticmnfmijdgmbaaGreatDoorGd
import Derived.Test.YticmnfmijdgmbaaGreatDoorSm
set_option linter.all false
set_option maxRecDepth 100000
set_option maxHeartbeats 4000000
namespace Go.Proofs.YticmnfmijdgmbaaGreatDoor
open Go Go.RowKit Go.Lib
open aO (It)
theorem below_drewN' {B:Nat}{a w:World}(h:Below B a w)(n:Nat):Below B a (w.drewN n):=⟨h.os,h.tape,h.output,h.size,h.block⟩
theorem ah {P:Program}{id:Nat}{Q:Exit->Act->World->Prop}{a:Act}{w:World}{l:List Oper}(hm:P.follows .mixedOrders=true)(hB:Region.lexB .any l.toArray=true)
  (h:wpQuiet P l.toArray (Below w.heap.size w) (fun a'=>∀ w',aj w w'->Q .normal a' w') l a):(Code.region id l.toArray true).wp P Q a w:=
 wp_region_quiet (C:=Below w.heap.size w) hm hB (below_drewN' (eH _ _) 1) (by simpa using h)
theorem bD {P:Program}{f:FuncId}{args:Array Value}{n:Nat}{w0 w':World}{v:Value}(hC:Below n w0 w')(hn:n<=w0.heap.size)(h:Calls P f args w' fun e w''=>e=.returned v/\aj w' w'') :
  Calls P f args w' fun e w''=>e=.returned v/\Below n w0 w'':=
 h.mono fun _ _ ⟨he,hb⟩=>⟨he,hC.trans (hb.mono (eX hn hC.size))⟩
theorem iM {B:Nat}{W w:World}(h:Below B W w){b off:Nat}{x:Value}(hb:b<B)(hx:W.cell? ⟨b,off,none⟩=some x):w.cell? ⟨b,off,none⟩=some x:=(World.cell?_of_block (a:=⟨b,off,none⟩) (h.block b hb)).trans hx
theorem jJ {w w':World}{B:Nat}{e:TypeId}{sz:Nat}{v:Value}{n:Nat}{xs:List Value}(h:w.ownsRow B e sz v n xs)(hb:∀ g,v.ownBlock=some g->w'.heap[g]?=w.heap[g]?):w'.ownsRow B e sz v n xs:=by
 refine⟨h.1,?_⟩;rcases h.2 with hn | ⟨g,cap,cur,rfl,hB,hg,rest⟩
 ·exact .inl hn
 ·exact .inr ⟨g,cap,cur,rfl,hB,(hb g rfl).trans hg,rest⟩
theorem iF {w:World}{B:Nat}{e:TypeId}{sz:Nat}{v:Value}{n:Nat}{xs:List Value}(h:w.ownsRow B e sz v n xs)(g:Nat)(hg:v.ownBlock=some g):B<=g/\g<w.heap.size:=by
 rcases h.2 with⟨rfl,_⟩ | ⟨g',cap,cur,rfl,hB,hh,_⟩
 ·cases hg
 ·injection hg with hg;subst hg;exact⟨hB,(dZ hh)⟩
theorem bF {w:World}{B n sz:Nat}{e:TypeId}{v:Value}{xs:List Value}(h:w.ownsRow B e sz v n xs):∃ o c,v=.slice o n c:=by
 rcases h.2 with⟨rfl,h0⟩ | ⟨g,cap,cur,rfl,_⟩
 ·exact⟨none,0,by rw[h0]⟩
 ·exact⟨_,_,rfl⟩
theorem own_below {w w':World}{B n sz:Nat}{e:TypeId}{v:Value}{xs:List Value}(h:w.ownsRow B e sz v n xs)(hb:aj w w'):w'.ownsRow B e sz v n xs:=
 jJ h fun g hg=>hb.block g (iF h g hg).2
theorem aK (w:World)(o:Obj):(w.alloc o).heap[w.heap.size]?=some o:=heap_alloc_new _ _
theorem jr {b off j:Nat} : (⟨b,off,none⟩:Addr).add j=⟨b,off+j,none⟩:=by unfold Addr.add;split<;>simp_all
structure jv (m b:Nat) (W W':World):Prop where
 os:W'.os=W.os
 tape:W'.tape=W.tape
 output:W'.output=W.output
 size:W.heap.size<=W'.heap.size
 block:∀ g,g<m->g≠b->W'.heap[g]?=W.heap[g]?
theorem jv.refl (m b:Nat)(W:World):jv m b W W:=⟨rfl,rfl,rfl,bJ _,fun _ _ _=>rfl⟩
theorem jv.trans {m b:Nat}{A B C:World}(h:jv m b A B)(k:jv m b B C):jv m b A C:=⟨k.os.trans h.os,k.tape.trans h.tape,k.output.trans h.output,eX h.size k.size,fun g h1 h2=>(k.block g h1 h2).trans (h.block g h1 h2)⟩
theorem jv.below {m b:Nat}{A B C:World}(h:jv m b A B)(hm:m<=B.heap.size)(k:aj B C):jv m b A C:=h.trans ⟨k.os,k.tape,k.output,k.size,fun g h1 _=>k.block g (by omega)⟩
theorem jv.bel {m b n:Nat}{A B C:World}(h:jv m b B C)(k:Below n A B)(hn:n<=m)(hb:n<=b):Below n A C:=⟨h.os.trans k.os,h.tape.trans k.tape,h.output.trans k.output,eX k.size h.size,fun g hg=>(h.block g (by omega) (by omega)).trans (k.block g hg)⟩
def icells (l:List It):List Value:=l.flatMap fun x=>[.int .i64 x.1,.int .i64 x.2]
theorem qE (l:List It)(x:It):icells (l++[x])=icells l++[.int .i64 x.1,.int .i64 x.2]:=by simp[icells]
theorem yl:∀ (l:List It)(i:Nat)(h:i<l.length),(icells l)[i*2]?=some (.int .i64 l[i].1)/\(icells l)[i*2+1]?=some (.int .i64 l[i].2)
 | x::l,0,_=>⟨rfl,rfl⟩
 | x::l,i+1,h=>by
  have:=yl l i (by simpa using h);have e:icells (x::l)=.int .i64 x.1::.int .i64 x.2::icells l:=rfl;rw[e,show(i+1)*2=i*2+1+1 by omega,show i*2+1+1+1=(i*2+1)+1+1 by omega];simpa using this
theorem rC {w:World}{B c n:Nat}{e:TypeId}{o:Option Addr}{l:List It}(h:w.ownsRow B e 2 (.slice o n c) n (icells l)){i:Nat}(hi:i<l.length)(hn:l.length=n):∃ g,o=some ⟨g,0,none⟩/\g<w.heap.size/\w.cell? ⟨g,i*2,none⟩=some (.int .i64 l[i].1)/\w.cell? ⟨g,i*2+1,none⟩=some (.int .i64 l[i].2):=by
 subst hn;obtain⟨k0,k1⟩:=yl l i hi;rcases h.2 with⟨h1,h0⟩ | ⟨g,cap,cur,h1,hB,hg,h2,h3,h4,h5⟩
 ·omega
 ·injection h1 with h1;subst h1;refine⟨g,rfl,(dZ hg),?_,?_⟩
  ·rw[ak hg,<-Array.getElem?_toList,<-List.getElem?_take_of_lt (show i*2<l.length*2 by omega),h5,k0]
  ·rw[ak hg,<-Array.getElem?_toList,<-List.getElem?_take_of_lt (show i*2+1<l.length*2 by omega),h5,k1]
theorem Bo:(Tryz.prog.info? 60).map (fun i=>(i.zero,i.size,i.bytes))=some (some (.agg #[.int .i64 0,.int .i64 0]),2,16):=by kernel_rfl
theorem nX {ops:Array Oper}{rest:List Oper}{o:Oper}{a:Act}{w:World}{Q:Exit->Act->World->Prop}(hgd:o.guard=none)(s x:Operand)(ho:o.op=.call {callee:=.builtin .append,args:=#[s,x],argTypes:=#[45,45]})
  (base:Nat) (v:Value) (n:Nat) (xs:List Value) (hs:a.eval s=v) (hown:w.ownsRow base 60 2 v n xs) (g:Nat) (hx:a.eval x=.slice (some ⟨g,0,none⟩) 1 1) (p q:Int) (hb:w.heap[g]?=some (.cells #[.int .i64 p,.int .i64 q] 60 (0,0))) (hn:n<=1000000) (hbase:base<=w.heap.size)
  (h:∀ v' w',w'.ownsRow base 60 2 v' (n+1) (xs++[.int .i64 p,.int .i64 q])->w.grownBy w' v.ownBlock->(v'.ownBlock=v.ownBlock\/v'.ownBlock=some w.heap.size)->wpList Tryz.prog ops Q rest (a.put o.dst v') w'):wpList Tryz.prog ops Q (o::rest) a w:=by
 obtain⟨i,hi,h0,h1,h2⟩:=info_parts Bo;refine wpList_append_own_at w hgd s x 45 ho base 60 i _ 2 16 Tryz.underlying45 hi h0 h1 h2 rfl (by decide) v n xs hs hown ⟨g,0,none⟩ 1 1 [.int .i64 p,.int .i64 q] hx rfl (fun j u hj=>?_) (fun u hu=>?_) (by unfold maxLen;omega) ?_ hbase (fun v' w' a1 a2 _ a4=>h v' w' a1 a2 a4)
 ·rw[jr,Nat.zero_add,ak hb,<-hj];simp
 ·simp at hu;rcases hu with rfl | rfl<;>rfl
 ·omega
end Go.Proofs.YticmnfmijdgmbaaGreatDoor
namespace Go.Proofs
open Go Go.Shelf Go.RowKit Go.Lib Go.Sort
shelf_lay_g SlLaysF0.n6 Slsf 6 at Tryz 128 as Tryz.sortIt
end Go.Proofs
namespace Go.Proofs.YticmnfmijdgmbaaGreatDoor
open Go Go.RowKit Go.Lib Go.Sort
open aO (It Less Ord)
theorem IC (x:Int)(w:World):Calls Tryz.prog 138 #[.int .i64 x] w fun e w'=>e=.returned (.bool false)/\w'=w:=by
 go_enter Tryz.func138,Tryz.ntmps138;go_wp2;go_ret;exact⟨by simp,rfl⟩
theorem wB (x y:Int)(w:World):Calls Tryz.prog 131 #[.int .i64 x,.int .i64 y] w fun e w'=>e=.returned (.int .i64 (Lib.compareInt x y))/\w'=w:=by
 have K:=hid fun(z:Int) (W:World)=>IC z W;obtain⟨r,hr⟩:=ai (Lib.compareInt x y);have HR:=hid hr;rw[hr];clear hr;by_cases h1:x<y
 ·have d1:decide (x<y)=true:=eP h1;have e:r=-1:=by rw[<-HR.o];unfold Lib.compareInt;rw[if_pos h1]
  subst e;go_enter Tryz.func131,Tryz.ntmps131;go_wp2_with fail;refine(K.o _ _).mono ?_;rintro e w' ⟨rfl,rfl⟩;go_wp2_with fail;refine(K.o _ _).mono ?_;rintro e w' ⟨rfl,rfl⟩;go_wp2_with fail;go_ret;exact⟨rfl,rfl⟩
 ·have d1:decide (x<y)=false:=dA h1;by_cases h2:y<x
  ·have d2:decide (y<x)=true:=eP h2;have e:r=1:=by rw[<-HR.o];unfold Lib.compareInt;rw[if_neg h1,if_pos h2]
   subst e;go_enter Tryz.func131,Tryz.ntmps131;go_wp2_with fail;refine(K.o _ _).mono ?_;rintro e w' ⟨rfl,rfl⟩;go_wp2_with fail;refine(K.o _ _).mono ?_;rintro e w' ⟨rfl,rfl⟩;go_wp2_with fail;go_ret;exact⟨rfl,rfl⟩
  ·have d2:decide (y<x)=false:=dA h2;have e:r=0:=by rw[<-HR.o];unfold Lib.compareInt;rw[if_neg h1,if_neg h2]
   subst e;go_enter Tryz.func131,Tryz.ntmps131;go_wp2_with fail;refine(K.o _ _).mono ?_;rintro e w' ⟨rfl,rfl⟩;go_wp2_with fail;refine(K.o _ _).mono ?_;rintro e w' ⟨rfl,rfl⟩;go_wp2_with fail;go_ret;exact⟨rfl,rfl⟩
def orX (a b:Int):Int:=if a=0 then b else a
theorem or_any (a b:Int)(g:Nat)(w:World)(h:w.heap[g]?=some (.cells #[.int .i64 a,.int .i64 b] 3 (0,0))):Calls Tryz.prog 130 #[.slice (some ⟨g,0,none⟩) 2 2] w fun e w'=>e=.returned (.int .i64 (orX a b))/\w'=w:=by
 have c0:ay w g 0 (.int .i64 a):=ak h 0;have c1:ay w g 1 (.int .i64 b):=ak h 1;obtain⟨r,hr⟩:=ai (orX a b);have HR:=hid hr;rw[hr];clear hr h;go_enter Tryz.func130,Tryz.ntmps130;go_wp2_with fail
 go_loop [8,5] (fun i v=>∃ k:Nat,k<=2/\i=.int .i64 (k:Int)/\(1<=k->a=0)/\(2<=k->b=0)) (fun i _=>2-(RowKit.intOf i).toNat)
 case atStart=>exact⟨0,by omega,rfl,by omega,by omega⟩
 case round =>
  obtain⟨k,hk,rfl,h1,h2⟩:=hrel
  match k,hk with
  | 0,_ =>
   clear h1 h2;by_cases ha:a=0
   ·subst ha;go_wp2_with fail;refine⟨⟨1,by omega,rfl,by simp,by omega⟩,?_⟩;decide
   ·have t0:((a:Int) != 0)=true:=(by simp[ha]);have t1:((a:Int) == 0)=false:=(by simp[ha]);have e:r=a:=by rw[<-HR.o];unfold orX;rw[if_neg ha]
    subst e;go_wp2_with fail;go_ret;exact⟨rfl,by first | trivial | rfl⟩
  | 1,_ =>
   have ha:=h1 (by omega);subst ha;clear h1 h2;by_cases hb:b=0
   ·subst hb;go_wp2_with fail;refine⟨⟨2,by omega,rfl,by simp,by simp⟩,?_⟩;decide
   ·have t0:((b:Int) != 0)=true:=(by simp[hb]);have t1:((b:Int) == 0)=false:=(by simp[hb]);have e:r=b:=by rw[<-HR.o];unfold orX;rw[if_pos rfl]
    subst e;go_wp2_with fail;go_ret;exact⟨rfl,by first | trivial | rfl⟩
  | 2,_ =>
   have ha:=h1 (by omega);have hb:=h2 (by omega);subst ha;subst hb;have e:r=0:=by rw[<-HR.o];rfl
   subst e;clear h1 h2;go_wp2_with fail;go_ret;exact⟨rfl,by first | trivial | rfl⟩
def wO (x y:It):Int:=orX (Lib.compareInt x.1 y.1) (Lib.compareInt x.2 y.2)
def encI (x:It):List Value:=[.int .i64 x.1,.int .i64 x.2]
theorem uz (x y:It):ltOf wO x y=true↔Less x y:=by
 unfold ltOf wO orX Lib.compareInt Less;rw[decide_eq_true_iff];by_cases h1:x.1<y.1
 ·simp[h1]
 ·by_cases h2:y.1<x.1
  ·have:¬ x.1=y.1:=by omega
   simp[h1,h2,this]
  ·have:x.1=y.1:=by omega
   by_cases h3:x.2<y.2
   ·simp[h1,h2,h3,this]
   ·by_cases h4:y.2<x.2<;>simp[h1,h2,h3,h4]
theorem pg (x y:It):ltOf wO x y=false↔¬ Less x y:=by rw[<-uz,Bool.not_eq_true]
theorem cmp_swo:SWO (ltOf wO) where
 irrefl x:=(pg x x).2 aO.Less.irrefl
 trans x y z h1 h2:=(uz x z).2 (((uz x y).1 h1).trans ((uz y z).1 h2))
 ntrans x y z h1 h2:=by
  rw[pg]at *;unfold Less at *;omega
theorem IY (x y:It)(h1:ltOf wO x y=false)(h2:ltOf wO y x=false):x=y:=aO.Less.total ((pg x y).1 h1) ((pg y x).1 h2)
theorem vK (x y:It)(W:World):Calls Tryz.prog 129 #[.agg #[.int .i64 x.1,.int .i64 x.2],.agg #[.int .i64 y.1,.int .i64 y.2]] W fun e w'=>e=.returned (.int .i64 (wO x y))/\∃ q os',w'=grow (W.drewN q) os':=by
 obtain⟨W1,e1⟩:=ai (W.alloc (.cells #[.int .i64 x.1,.int .i64 x.2] 60));obtain⟨W2,e2⟩:=ai (W1.alloc (.cells #[.int .i64 y.1,.int .i64 y.2] 60));obtain⟨we,ewe⟩:=ai (W2.drew);obtain⟨a,ha⟩:=ai (Lib.compareInt x.1 y.1);obtain⟨b,hb⟩:=ai (Lib.compareInt x.2 y.2);obtain⟨w3,e3⟩:=ai (we.alloc (.cells #[.int .i64 a,.int .i64 b] 3));have hb2:aj W1 W2:=dM e2;have hbe:aj W2 we:=pW ewe;have n1:W1.heap[W.heap.size]?=some (.cells #[.int .i64 x.1,.int .i64 x.2] 60 (0,0)):=dO e1;have n2:W2.heap[W1.heap.size]?=some (.cells #[.int .i64 y.1,.int .i64 y.2] 60 (0,0)):=dO e2;have n3:w3.heap[we.heap.size]?=some (.cells #[.int .i64 a,.int .i64 b] 3 (0,0)):=dO e3;have m1:we.heap[W.heap.size]?=some (.cells #[.int .i64 x.1,.int .i64 x.2] 60 (0,0)):=(hbe.block _ (Nat.lt_of_lt_of_le (dZ n1) hb2.size)).trans ((hb2.block _ (dZ n1)).trans n1);have m2:we.heap[W1.heap.size]?=some (.cells #[.int .i64 y.1,.int .i64 y.2] 60 (0,0)):=(hbe.block _ (dZ n2)).trans n2;have hS:we.cell? ⟨W.heap.size,0,none⟩=some (.int .i64 x.1)/\we.cell? ⟨W.heap.size,1,none⟩=some (.int .i64 x.2)/\we.cell? ⟨W1.heap.size,0,none⟩=some (.int .i64 y.1)/\we.cell? ⟨W1.heap.size,1,none⟩=some (.int .i64 y.2):=⟨ak m1 0,ak m1 1,ak m2 0,ak m2 1⟩;have HEND:=hid (show ∃ q os',w3=grow (W.drewN q) os' from⟨1,#[.cells #[.int .i64 x.1,.int .i64 x.2] 60 (0,0),.cells #[.int .i64 y.1,.int .i64 y.2] 60 (0,0),.cells #[.int .i64 a,.int .i64 b] 3 (0,0)],by
  rw[<-e3,<-ewe,<-e2,<-e1];have h1:∀ (o1 o2:Obj),((W.alloc o1).alloc o2).drew=grow (W.drewN 1) #[o1,o2]:=fun o1 o2=>by rw[alloc_eq_grow,alloc_eq_grow,grow_grow];rfl
  rw[h1,alloc_eq_grow,grow_grow];rfl⟩)
 have KA:=hid (show ∀ W,Calls Tryz.prog 131 #[.int .i64 x.1,.int .i64 y.1] W fun e w'=>e=.returned (.int .i64 a)/\w'=W from fun W=>by rw[<-ha];exact wB _ _ W);have KB:=hid (show ∀ W,Calls Tryz.prog 131 #[.int .i64 x.2,.int .i64 y.2] W fun e w'=>e=.returned (.int .i64 b)/\w'=W from fun W=>by rw[<-hb];exact wB _ _ W);have KO:=hid (or_any a b we.heap.size w3 n3);have HH0:=hS;unfold wO;rw[ha,hb];have H3:=hid n3;have hc3:w3.cell? ⟨W.heap.size,0,none⟩=some (.int .i64 x.1)/\w3.cell? ⟨W.heap.size,1,none⟩=some (.int .i64 x.2)/\w3.cell? ⟨W1.heap.size,0,none⟩=some (.int .i64 y.1)/\w3.cell? ⟨W1.heap.size,1,none⟩=some (.int .i64 y.2):=by
  have hb3:aj we w3:=dM e3;exact⟨iM hb3 (dZ m1) hS.1,iM hb3 (dZ m1) hS.2.1,iM hb3 (dZ m2) hS.2.2.1,iM hb3 (dZ m2) hS.2.2.2⟩
 have HH3:=hid hc3;have HE3:=hid e3;clear hb2 hbe n1 n2 n3 m1 m2 hS ha hb hc3 e3;generalize orX a b=r at *;go_enter Tryz.func129,Tryz.ntmps129;go_wp2_with fail;refine aW 12 (fun w'=>w'.cell? ⟨W.heap.size,0,none⟩=some (.int .i64 x.1)/\w'.cell? ⟨W.heap.size,1,none⟩=some (.int .i64 x.2)/\w'.cell? ⟨W1.heap.size,0,none⟩=some (.int .i64 y.1)/\w'.cell? ⟨W1.heap.size,1,none⟩=some (.int .i64 y.2)) (by kernel_rfl) (by rw[ewe];exact HH0) (fun inv hHeld=>?_);rw[ewe];clear hHeld ewe;iterate 8
  refine aF (v:=?_) rfl (by kernel_rfl) (fun _ _ _ h=>h) (Or.inl ⟨by rfl,?_⟩) HH0 inv (fun inv=>?_)
  rotate_left
  ·intro w hSw;try dsimp only at hSw
   go_simp;try with_reducible rfl
  simp only[Act.put,bP,bQ,bK]
 refine eu (i:=4) rfl (by kernel_rfl) (by decide) inv (fun inv K' hK=>?_);go_simp;refine(KA.o _).mono ?_;rintro e w' ⟨rfl,rfl⟩;refine hK.out _ _ HH0 ?_;clear hK K';try simp only[Act.put,bP,bQ,bK]
 refine eu (i:=9) rfl (by kernel_rfl) (by decide) inv (fun inv K' hK=>?_);go_simp;refine(KB.o _).mono ?_;rintro e w' ⟨rfl,rfl⟩;refine hK.out _ _ HH0 ?_;clear hK K';try simp only[Act.put,bP,bQ,bK]
 refine eu (i:=10) rfl (by kernel_rfl) (by decide) inv (fun inv K' hK=>?_);go_simp;try rw[HE3.o]
 refine hK.out _ _ HH3.o ?_;clear hK K';try simp only[Act.put,bP,bQ,bK]
 refine eu (i:=11) rfl (by kernel_rfl) (by decide) inv (fun inv K' hK=>?_);go_simp;refine KO.o.mono ?_;rintro e w' ⟨rfl,rfl⟩;refine hK.out _ _ HH3.o ?_;clear hK K';try simp only[Act.put,bP,bQ,bK]
 refine fQ (i:=12) rfl (by kernel_rfl) (fun K' hK=>?_);go_simp;refine hK.out _ _ (fun h=>absurd h (by decide)) ?_;clear hK K';try simp only[Act.put,bP,bQ,bK]
 refine aQ (by kernel_rfl) ?_ _;go_wp2_with fail;go_ret;exact⟨rfl,HEND.o⟩
open aO (It Less)
def je (w:World)(g:Nat)(l:List It):Prop:=∀ i (hi:i<l.length),w.cell? ⟨g,i*2,none⟩=some (.int .i64 l[i].1)/\w.cell? ⟨g,i*2+1,none⟩=some (.int .i64 l[i].2)/\w.frozen? ⟨g,i*2,none⟩=false/\w.frozen? ⟨g,i*2+1,none⟩=false
theorem je.nZ {w:World}{B c n g:Nat}{e:TypeId}{l:List It}(h:w.ownsRow B e 2 (.slice (some ⟨g,0,none⟩) n c) n (icells l))(hn:l.length=n):je w g l:=fun i hi=>by
 obtain⟨g',e1,_,h1,h2⟩:=rC h hi hn;injection e1 with e1;injection e1 with e1;subst e1;rcases h.2 with⟨e2,_⟩ | ⟨g',cap,cur,e2,_,hg,_⟩
 ·cases e2
 ·injection e2 with e2;injection e2 with e2;injection e2 with e2;subst e2;exact⟨h1,h2,bY hg _,bY hg _⟩
theorem je.kept {w w':World}{g:Nat}{l:List It}(h:je w g l)(hb:w'.heap[g]?=w.heap[g]?):je w' g l:=fun i hi=>by
 obtain⟨h1,h2,h3,h4⟩:=h i hi;exact⟨(World.cell?_of_block (a:=⟨g,_,none⟩) hb).trans h1,(World.cell?_of_block (a:=⟨g,_,none⟩) hb).trans h2,(World.frozen?_of_block (a:=⟨g,_,none⟩) hb).trans h3,(World.frozen?_of_block (a:=⟨g,_,none⟩) hb).trans h4⟩
theorem je.holds {w:World}{g:Nat}{l:List It}(h:je w g l):HoldsK encI 2 w g 0 l.toArray:=fun j hj=>by
 have hj':j<l.toArray.size*2:=by simpa using hj
 have hl:l.toArray.size=l.length:=List.size_toArray;have hd:j / 2<l.length:=by omega
 obtain⟨h1,h2,h3,h4⟩:=h (j / 2) hd;have e0:l.toArray[j / 2]! = l[j / 2]:=by
  rw[getElem!_pos l.toArray (j / 2) (by omega)];simp
 rw[get_flatK _ _ _ _ hj',e0,Nat.zero_add];rcases Nat.mod_two_eq_zero_or_one j with hm | hm
 ·have e1:(⟨g,j / 2*2,none⟩:Addr)=⟨g,j,none⟩:=by simp only[Addr.mk.injEq,true_and,and_true];omega
  rw[e1]at h1 h3;rw[hm];exact⟨h1,h3⟩
 ·have e1:(⟨g,j / 2*2+1,none⟩:Addr)=⟨g,j,none⟩:=by simp only[Addr.mk.injEq,true_and,and_true];omega
  rw[e1]at h2 h4;rw[hm];exact⟨h2,h4⟩
theorem je.JR {w:World}{g:Nat}{l:List It}(h:HoldsK encI 2 w g 0 l.toArray):je w g l:=fun i hi=>by
 have hl:l.toArray.size=l.length:=List.size_toArray;have e0:l.toArray[i]! = l[i]:=by
  rw[getElem!_pos l.toArray i (by omega)];simp
 have h0:=h (i*2) (by rw[size_flatK];omega);have h1:=h (i*2+1) (by rw[size_flatK];omega);rw[get_flatK _ _ _ _ (by omega),Nat.zero_add,show i*2 / 2=i by omega,show i*2 % 2=0 by omega,e0]at h0;rw[get_flatK _ _ _ _ (by omega),Nat.zero_add,show(i*2+1) / 2=i by omega,show(i*2+1) % 2=1 by omega,e0]at h1;exact⟨h0.1,h1.1,h0.2,h1.2⟩
theorem yX (w:World)(n g:Nat)(d:Array It)(os:Array Obj)(k:Nat)(hk:k<w.heap.size)(hne:k≠g):(sortWorldK encI 2 w g 0 n d os).heap[k]?=w.heap[k]?:=by
 unfold sortWorldK grow;have hs:(putRowK encI 2 (Sort.ahead w n) g 0 d).heap.size=w.heap.size:=by simp[putRowK,putRow,mapBlock,Sort.ahead]
 show((putRowK encI 2 (Sort.ahead w n) g 0 d).heap++os)[k]?=_;rw[Array.getElem?_append_left (by rw[hs];exact hk)];unfold putRowK putRow mapBlock Sort.ahead;show(w.heap.modify g _)[k]?=_;rw[Array.getElem?_modify,if_neg (fun e=>hne e.symm)]
def SortP (g:Nat)(l:List It)(w:World)(e:Ending)(w':World):Prop:=e=.returned (.tuple #[])/\∃ l',(∀ x,x∈l'↔x∈l)/\l'.length=l.length/\aO.Ord l'/\je w' g l'/\jv w.heap.size g w w'
theorem Jy {w:World}{g c:Nat}{l:List It}(hR:je w g l)(hg:g<w.heap.size)(hl:l.length<4611686018427387904) :
  Calls Tryz.prog 128 #[.slice (some ⟨g,0,none⟩) l.length c,.func (.func 129) #[] #[]] w (SortP g l w):=by
 have eg:∀ args w,(callFunc 129 args).run Tryz.prog w=.ok (.enter 129 args) w:=enters_of Tryz.func129 (by kernel_rfl) rfl;have hs:l.toArray.size=l.length:=List.size_toArray;have hcon:=AnyQ.slices_SortFunc_total Tryz.sortIt 2 Tryz.isAgg60 Tryz.sizeOf60 encI (fun _=>rfl) (fun x v hv=>by simp[encI]at hv;rcases hv with rfl | rfl<;>rfl) wO cmp_swo 129 #[] g 0 c l.toArray w eg (fun _ _ _ _ x y=>vK x y _) hR.holds hg (by omega) IY;change Calls Tryz.prog 128 _ _ _ at hcon;rw[hs]at hcon;refine hcon.mono ?_;rintro e w' ⟨rfl,n,os,rfl⟩;refine⟨rfl,l.mergeSort fun x y=>!ltOf wO y x,fun x=>List.mem_mergeSort,List.length_mergeSort l,?_,?_,?_⟩
 ·unfold aO.Ord;have:=List.pairwise_mergeSort (le:=fun x y=>!ltOf wO y x) (fun a b c h1 h2=>by
   simp only[Bool.not_eq_true',pg]at *;unfold Less at *;omega) (fun a b=>by
   simp only[Bool.or_eq_true,Bool.not_eq_true',pg];unfold Less;omega) l
  exact this.imp fun {a b} h=>by simpa[pg] using h
 ·refine je.JR ?_;refine holdsK_grow encI 2 _ os g 0 _ (by simp[putRowK,putRow,mapBlock,Sort.ahead];exact hg) ?_;exact holdsK_putRowK encI 2 _ g 0 l.toArray _ (holdsK_ahead encI 2 w n g 0 _ hR.holds) (by simp[List.length_mergeSort])
 ·refine⟨rfl,rfl,rfl,?_,fun k hk hne=>yX w n g _ os k hk hne⟩;unfold sortWorldK grow;show w.heap.size<=((putRowK encI 2 (Sort.ahead w n) g 0 _).heap++os).size;rw[Array.size_append];have:(putRowK encI 2 (Sort.ahead w n) g 0 (l.mergeSort fun x y=>!ltOf wO y x).toArray).heap.size=w.heap.size:=by simp[putRowK,putRow,mapBlock,Sort.ahead]
  simp only[List.toList_toArray]at *;omega
end Go.Proofs.YticmnfmijdgmbaaGreatDoor
