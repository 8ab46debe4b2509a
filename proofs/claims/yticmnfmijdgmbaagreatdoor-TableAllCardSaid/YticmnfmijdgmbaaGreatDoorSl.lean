import Derived.Sort.Walk0
import Derived.Test.YticmnfmijdgmbaaGreatDoorSj
set_option linter.all false
set_option maxRecDepth 100000
set_option maxHeartbeats 4000000
namespace Go.Proofs.YticmnfmijdgmbaaGreatDoor
open Go Go.RowKit Go.Lib
theorem leS_not (x y:ByteArray):pM y x=!(Op.bytesLess x.toList y.toList):=by
 unfold pM;rw[bytesLess_eq,bytesLess_eq,Bool.eq_iff_iff];simp only[Bool.or_eq_true,decide_eq_true_eq,beq_iff_eq,Bool.not_eq_true',decide_eq_false_iff_not];rw[List.not_lt,List.le_iff_lt_or_eq]
theorem AP (x y:ByteArray)(w:World):(binOp .geq 9 (.string x) (.string y)).run Tryz.prog w=.ok (.bool (pM y x)) w:=by
 rw[leS_not];rfl
theorem lu {l:List Int}{k:Nat}(h:k<l.length):l.getD k 0∈l:=by
 rw[dL,dH h];exact List.getElem_mem _
theorem BZ {G:GD}(h:¬ (aB G=true)):aB G=false:=Bool.eq_false_iff.2 h
theorem bn {G:GD}(h:aB G=true):G.terms.length<=60/\G.sorts.length<=60/\G.prods.length<=120/\G.prods.all (fP G.terms.length G.sorts.length)=true/\G.over.all (lq G.terms.length)=true/\(0<=G.start/\G.start<G.sorts.length) /\
  gQ G.sorts=true/\gQ (G.prods.map (·.lab))=true/\gQ G.terms=true:=by
 unfold aB at h;simp only[Bool.and_eq_true,decide_eq_true_eq]at h;obtain⟨⟨⟨⟨⟨h1,h2⟩,h3⟩,h4⟩,h5⟩,⟨⟨h6,h7⟩,h8⟩,h9⟩:=h;exact⟨h1,h2,h3,h4,h5,h6,h7,h8,h9⟩
theorem BV {G:GD}(h1:G.terms.length<=60)(h2:G.sorts.length<=60)(h3:G.prods.length<=120)(h4:G.prods.all (fP G.terms.length G.sorts.length)=true)(h5:G.over.all (lq G.terms.length)=true)
  (h6:0<=G.start/\G.start<G.sorts.length) (h7:gQ G.sorts=true) (h8:gQ (G.prods.map (·.lab))=true) (h9:gQ G.terms=true):aB G=true:=by
 unfold aB;rw[h4,h5,h7,h8,h9,eP h1,eP h2,eP h3,eP h6];rfl
theorem AV {l:List ByteArray}(h:gQ l=true){k:Nat}(hk:k+1<l.length):pM (l.getD (k+1) ByteArray.empty) (l.getD k ByteArray.empty)=false:=by
 unfold gQ at h;exact of_decide_eq_true h k (by omega)
theorem Bd (l:List PD){k:Nat}(h:k<l.length):(l.map (·.lab)).getD k ByteArray.empty=(l.getD k default).lab:=by
 simp[dL,dH h]
theorem Mc {α:Type}{l:List α}{f:α->Bool}{d:α}{k:Nat}(h:l.all f=true)(hk:k<l.length):f (l.getD k d)=true:=by
 rw[List.all_eq_true]at h;rw[dL,dH hk];exact h _ (List.getElem_mem hk)
theorem tH {G:GD}{gv tv ov sv pv:Value}{tf:Nat->Nat->Value}{rv:Nat->Value}{w:World}(h:nJ w gv G tv ov sv pv tf rv) :
  Calls Tryz.prog 82 #[gv] w fun e w'=>e=.returned (.bool (aB G))/\aj w w':=by
 obtain⟨W1,B,hW1,hB,c0,c1,c2,c3,c4,hG,hb,hsz⟩:=gU h;subst hB;have hgv:=h.eq;have ht:=hG.terms;have ho:=hG.over;have hs:=hG.sorts;have hp:=hG.prods;have HR:=hid hG.rights;subst hgv;obtain⟨ta,tc,rfl,htn,ht⟩:=ht;obtain⟨oa,oc,rfl,hon,ho⟩:=ho;obtain⟨sa,sc,rfl,hsn,hs⟩:=hs;obtain⟨pa,pc,rfl,hpn,hp⟩:=hp;clear h hG;have VP:=hid (bn (G:=G));have VF:=hid (BZ (G:=G));have VW:=hid (BV (G:=G));generalize hV:aB G=V at *;clear hV;generalize hst:G.start=st at *;generalize hnt:G.terms.length=nt at *;generalize hno:G.over.length=no at *;generalize hns:G.sorts.length=ns at *;generalize hnp:G.prods.length=np at *;have HT:=hid ht;have HO:=hid ho;have HS:=hid hs;have HP:=hid hp;have NT:=hid hnt;have NO:=hid hno;have NS:=hid hns;have NP:=hid hnp;clear ht ho hs hp hnt hno hns hnp hst;have kf:¬ (V=true)->Hid (V=false):=VF.o;have bad:Hid (60<nt\/60<ns\/120<np\/st<0\/(ns:Int)<=st->V=false):=fun hx=>VF.o fun hv=>by
  obtain⟨p1,p2,p3,_,_,p6,_⟩:=VP.o hv;omega
 by_cases h1:(60:Int)<(nt:Int)
 ·have hv:=hid (bad.o (by omega));go_enter Tryz.func82,Tryz.ntmps82;go_wp2;rw[<-hW1];go_ret;exact⟨by rw[hv.o]<;>rfl,hb⟩
 have h1':(nt:Int)<=60:=by omega
 by_cases h2:(60:Int)<(ns:Int)
 ·have hv:=hid (bad.o (by omega));go_enter Tryz.func82,Tryz.ntmps82;go_wp2;rw[<-hW1];go_ret;exact⟨by rw[hv.o]<;>rfl,hb⟩
 have h2':(ns:Int)<=60:=by omega
 by_cases h3:(120:Int)<(np:Int)
 ·have hv:=hid (bad.o (by omega));go_enter Tryz.func82,Tryz.ntmps82;go_wp2;rw[<-hW1];go_ret;exact⟨by rw[hv.o]<;>rfl,hb⟩
 have h3':(np:Int)<=120:=by omega
 by_cases h4:st<0
 ·have hv:=hid (bad.o (by omega));go_enter Tryz.func82,Tryz.ntmps82;go_wp2;rw[<-hW1];go_ret;exact⟨by rw[hv.o]<;>rfl,hb⟩
 have h4':0<=st:=by omega
 by_cases h5:(ns:Int)<=st
 ·have hv:=hid (bad.o (by omega));go_enter Tryz.func82,Tryz.ntmps82;go_wp2;rw[<-hW1];go_ret;exact⟨by rw[hv.o]<;>rfl,hb⟩
 have h5':st<(ns:Int):=by omega
 have hneg:IntKind.i64.wrap (-(ns:Int))=-(ns:Int):=by rw[IntKind.wrap_i64];omega
 clear h1 h2 h3 h4 h5 bad;have b1:decide ((60:Int)<(nt:Int))=false:=dA (by omega);have b2:decide ((60:Int)<(ns:Int))=false:=dA (by omega);have b3:decide ((120:Int)<(np:Int))=false:=dA (by omega);have b4:decide (st<0)=false:=dA (by omega);have b5:decide ((ns:Int)<=st)=false:=dA (by omega);go_enter Tryz.func82,Tryz.ntmps82;go_wp2_with fail;rw[<-hW1];clear hW1
 go_loop [5] (fun i=>∃ k:Nat,k<=no/\i=.int .i64 (k:Int)/\∀ j,j<k->lq nt (G.over.getD j (0,0))=true) (fun i=>no-(RowKit.intOf i).toNat)
 case atStart=>exact⟨0,by omega,rfl,fun j hj=>by omega⟩
 case round =>
  obtain⟨k,hk,rfl,hj⟩:=hrel;have HJ:=hid hj;clear hj;by_cases hlt:k<no
  ·obtain⟨b,off,rfl,hc⟩:=HO.o (by omega);obtain⟨x0,x1⟩:=hc k hlt;have HS1:Hid (lq nt (G.over.getD k (0,0))=true->∀ j,j<k+1->lq nt (G.over.getD j (0,0))=true):=fun h j hj=>by
    rcases Nat.lt_or_ge j k with h1 | h1
    ·exact HJ.o j h1
    ·obtain rfl:j=k:=by omega
     exact h
   have HN:Hid (lq nt (G.over.getD k (0,0))=false->V=false):=fun hf=>VF.o fun hv=>by
    have:=Mc (d:=(0,0)) (VP.o hv).2.2.2.2.1 (k:=k) (by have:=NO.o;omega);rw[hf]at this;cases this
   clear hc HJ;generalize G.over.getD k (0,0)=q at *;obtain⟨q1,q2⟩:=q;simp only at x0 x1;have i0:(0:Int)<=(k:Int):=by omega
   have i1:(k:Int)<(no:Int):=by omega
   have hpb:lq nt (q1,q2)=(decide (0<=q1/\q1<nt) && decide (0<=q2/\q2<nt)):=rfl;rw[hpb]at HS1 HN;clear hpb;by_cases e1:q1<0
   ·have hv:=hid (HN.o (by rw[dA (by omega)];rfl));go_wp2;go_ret;exact⟨by rw[hv.o]<;>rfl,hb⟩
   by_cases e2:(nt:Int)<=q1
   ·have hv:=hid (HN.o (by rw[dA (by omega)];rfl));go_wp2;go_ret;exact⟨by rw[hv.o]<;>rfl,hb⟩
   by_cases e3:q2<0
   ·have hv:=hid (HN.o (by rw[dA (p:=0<=q2/\q2<nt) (by omega),Bool.and_false]));go_wp2;go_ret;exact⟨by rw[hv.o]<;>rfl,hb⟩
   by_cases e4:(nt:Int)<=q2
   ·have hv:=hid (HN.o (by rw[dA (p:=0<=q2/\q2<nt) (by omega),Bool.and_false]));go_wp2;go_ret;exact⟨by rw[hv.o]<;>rfl,hb⟩
   have HS2:=hid (HS1.o (by rw[eP (by omega),eP (by omega)];rfl));have b6:decide (q1<0)=false:=dA (by omega);have b7:decide ((nt:Int)<=q1)=false:=dA (by omega);have b8:decide (q2<0)=false:=dA (by omega);have b9:decide ((nt:Int)<=q2)=false:=dA (by omega);go_wp2;exact⟨⟨k+1,by omega,by go_num,HS2.o⟩,by simp[RowKit.intOf];omega⟩
  ·obtain rfl:k=no:=by omega
   have HOV:Hid (G.over.all (lq nt)=true):=BK (d:=(0,0)) fun j hj=>HJ.o j (by have:=NO.o;omega);clear HJ;go_wp2_with fail
   go_loopw [6] (fun i wr=>∃ k:Nat,(k+1<=nt\/k=0)/\i=.int .i64 ((k:Int)+1)/\aj W1 wr/\∀ j,j<k->pM (G.terms.getD (j+1) ByteArray.empty) (G.terms.getD j ByteArray.empty)=false) (fun i _=>nt-(RowKit.intOf i).toNat)
   case atStart=>exact⟨0,by omega,rfl,eH _ _,fun j hj=>by omega⟩
   case round =>
    obtain⟨k,hk,rfl,hBW,hj⟩:=hrel;have HJ:=hid hj;clear hj;have d0:=cell_below hBW c0;have d1:=cell_below hBW c1;have d2:=cell_below hBW c2;have d3:=cell_below hBW c3;have d4:=cell_below hBW c4;by_cases hlt:k+1<nt
    ·obtain⟨b,off,rfl,hc⟩:=HT.o (by omega);have g1:=cell_below hBW ((hc (k+1) hlt).1);have g2:=cell_below hBW ((hc k (by omega)).1);have HS1:Hid (pM (G.terms.getD (k+1) ByteArray.empty) (G.terms.getD k ByteArray.empty)=false->∀ j,j<k+1->pM (G.terms.getD (j+1) ByteArray.empty) (G.terms.getD j ByteArray.empty)=false):=fun h j hj=>by
      rcases Nat.lt_or_ge j k with h1 | h1
      ·exact HJ.o j h1
      ·obtain rfl:j=k:=by omega
       exact h
     have HN:Hid (pM (G.terms.getD (k+1) ByteArray.empty) (G.terms.getD k ByteArray.empty)=true->V=false):=fun hf=>VF.o fun hv=>by
      have:=AV ((VP.o hv).2.2.2.2.2.2.2.2) (k:=k) (by have:=NT.o;omega);rw[hf]at this;cases this
     clear hc HJ;generalize G.terms.getD k ByteArray.empty=x at *;generalize G.terms.getD (k+1) ByteArray.empty=y at *;have i0:(0:Int)<=(k:Int)+1:=by omega
     have i1:(k:Int)+1<(nt:Int):=(by omega);have i3:(0:Int)<=(k:Int):=(by omega);have i4:(k:Int)<(nt:Int):=(by omega);have i5:IntKind.i64.wrap (k:Int)=(k:Int):=by rw[IntKind.wrap_i64];omega
     have i6:((k:Int)+1).toNat=k+1:=(by omega);have r1:=AP x y;generalize pM y x=LE at *;go_wp2_with fail
     go_quiet (fail)
     replace hBW:=below_drewN hBW nq;clear i5 i6;cases LE
     ·have HS2:=hid (HS1.o rfl);go_wp2;exact⟨⟨k+1,by omega,by go_num,hBW,HS2.o⟩,by simp[RowKit.intOf];omega⟩
     ·have HN2:=hid (HN.o rfl);go_wp2;go_ret;exact⟨by rw[HN2.o]<;>rfl,hb.trans (hBW.mono hsz)⟩
    ·have i1:¬ ((k:Int)+1<(nt:Int)):=(by omega);have HRT:Hid (gQ G.terms=true):=qY fun j hj=>HJ.o j (by have:=NT.o;omega);clear HJ;go_wp2_with fail
     go_loopw [7] (fun i wr=>∃ k:Nat,(k+1<=ns\/k=0)/\i=.int .i64 ((k:Int)+1)/\aj W1 wr/\∀ j,j<k->pM (G.sorts.getD (j+1) ByteArray.empty) (G.sorts.getD j ByteArray.empty)=false) (fun i _=>ns-(RowKit.intOf i).toNat)
     case atStart=>exact⟨0,by omega,rfl,hBW,fun j hj=>by omega⟩
     case round =>
      clear d0 d1 d2 d3 d4 hBW;obtain⟨k,hk,rfl,hBW,hj⟩:=hrel;have HJ:=hid hj;clear hj;have d0:=cell_below hBW c0;have d1:=cell_below hBW c1;have d2:=cell_below hBW c2;have d3:=cell_below hBW c3;have d4:=cell_below hBW c4;by_cases hlt:k+1<ns
      ·obtain⟨b,off,rfl,hc⟩:=HS.o (by omega);have g1:=cell_below hBW (hc (k+1) hlt);have g2:=cell_below hBW (hc k (by omega));have HS1:Hid (pM (G.sorts.getD (k+1) ByteArray.empty) (G.sorts.getD k ByteArray.empty)=false->∀ j,j<k+1->pM (G.sorts.getD (j+1) ByteArray.empty) (G.sorts.getD j ByteArray.empty)=false):=fun h j hj=>by
        rcases Nat.lt_or_ge j k with h1 | h1
        ·exact HJ.o j h1
        ·obtain rfl:j=k:=by omega
         exact h
       have HN:Hid (pM (G.sorts.getD (k+1) ByteArray.empty) (G.sorts.getD k ByteArray.empty)=true->V=false):=fun hf=>VF.o fun hv=>by
        have:=AV ((VP.o hv).2.2.2.2.2.2.1) (k:=k) (by have:=NS.o;omega);rw[hf]at this;cases this
       clear hc HJ;generalize G.sorts.getD k ByteArray.empty=x at *;generalize G.sorts.getD (k+1) ByteArray.empty=y at *;have i0:(0:Int)<=(k:Int)+1:=by omega
       have i1:(k:Int)+1<(ns:Int):=(by omega);have i3:(0:Int)<=(k:Int):=(by omega);have i4:(k:Int)<(ns:Int):=(by omega);have i5:IntKind.i64.wrap (k:Int)=(k:Int):=by rw[IntKind.wrap_i64];omega
       have i6:((k:Int)+1).toNat=k+1:=(by omega);have r1:=AP x y;generalize pM y x=LE at *;go_wp2_with fail
       go_quiet (fail)
       replace hBW:=below_drewN hBW nq;clear i5 i6;cases LE
       ·have HS2:=hid (HS1.o rfl);go_wp2;exact⟨⟨k+1,by omega,by go_num,hBW,HS2.o⟩,by simp[RowKit.intOf];omega⟩
       ·have HN2:=hid (HN.o rfl);go_wp2;go_ret;exact⟨by rw[HN2.o]<;>rfl,hb.trans (hBW.mono hsz)⟩
      ·have i1:¬ ((k:Int)+1<(ns:Int)):=(by omega);have HRS:Hid (gQ G.sorts=true):=qY fun j hj=>HJ.o j (by have:=NS.o;omega);clear HJ;go_wp2_with fail
       go_loopw [8] (fun i wr=>∃ k:Nat,k<=np/\i=.int .i64 (k:Int)/\aj W1 wr/\(∀ j,j<k->fP nt ns (G.prods.getD j default)=true)/\∀ j,j+1<k->pM (G.prods.getD (j+1) default).lab (G.prods.getD j default).lab=false) (fun i _=>np-(RowKit.intOf i).toNat)
       case atStart=>exact⟨0,by omega,rfl,hBW,fun j hj=>by omega,fun j hj=>by omega⟩
       case round =>
        clear d0 d1 d2 d3 d4 hBW;obtain⟨k,hk,rfl,hBW,hj,hj2⟩:=hrel;have HJ:=hid hj;have HJ2:=hid hj2;clear hj hj2;have d0:=cell_below hBW c0;have d1:=cell_below hBW c1;have d2:=cell_below hBW c2;have d3:=cell_below hBW c3;have d4:=cell_below hBW c4;by_cases hlt:k<np
        ·obtain⟨b,off,rfl,hc⟩:=HP.o (by omega);obtain⟨x0,x1,x2,x3⟩:=hc k hlt;have HPV:Hid (∀ m,k=m+1->W1.cell? ⟨b,off+m*4,none⟩=some (.string (G.prods.getD m default).lab)):=fun m hm=>(hc m (by omega)).1;obtain⟨⟨ra,rc,hrv,hrn,hrc⟩,hri⟩:=HR.o k (by have:=NP.o;omega);rw[hrv]at x2;have HFB:Hid (fP nt ns (G.prods.getD k default)=false->V=false):=fun hf=>VF.o fun hv=>by
          have:=Mc (d:=default) (VP.o hv).2.2.2.1 (k:=k) (by have:=NP.o;omega);rw[hf]at this;cases this
         have HFL:Hid (∀ m,k=m+1->pM (G.prods.getD k default).lab (G.prods.getD m default).lab=true->V=false):=fun m hm hf=>VF.o fun hv=>by
          have:=AV (VP.o hv).2.2.2.2.2.2.2.1 (k:=m) (by have:=NP.o;simp;omega);rw[Bd _ (by have:=NP.o;omega),Bd _ (by have:=NP.o;omega),<-hm,hf]at this;cases this
         have HS1:Hid (fP nt ns (G.prods.getD k default)=true->∀ j,j<k+1->fP nt ns (G.prods.getD j default)=true):=fun h j hj=>by
          rcases Nat.lt_or_ge j k with h1 | h1
          ·exact HJ.o j h1
          ·obtain rfl:j=k:=by omega
           exact h
         have HS2:Hid ((∀ m,k=m+1->pM (G.prods.getD k default).lab (G.prods.getD m default).lab=false)->∀ j,j+1<k+1->pM (G.prods.getD (j+1) default).lab (G.prods.getD j default).lab=false):=fun h j hj=>by
          rcases Nat.lt_or_ge (j+1) k with h1 | h1
          ·exact HJ2.o j h1
          ·obtain rfl:k=j+1:=by omega
           exact h j rfl
         clear hc HJ HJ2;generalize G.prods.getD k default=P at *;have HRC:=hid hrc;have HRI:=hid hri;clear hrc hri hrv;replace x0:=cell_below hBW x0;replace x1:=cell_below hBW x1;replace x2:=cell_below hBW x2;replace x3:=cell_below hBW x3;have i0:(0:Int)<=(k:Int):=by omega
         have i1:(k:Int)<(np:Int):=(by omega);generalize hrl:P.rs.length=rl at *;have HRL:=hid hrl;clear hrl;obtain⟨w2,hw2⟩:∃ w2,w2=wr.alloc (.cells #[.string P.lab,.int .i64 P.sort,.slice ra rl rc,.int .i64 P.cls] 71):=⟨_,rfl⟩;have hb2:aj wr w2:=by rw[hw2];exact(eH _ _).alloc (bJ _) _
         have p0:w2.cell? ⟨wr.heap.size,0,none⟩=some (.string P.lab):=by rw[hw2,World.cell?_alloc_mark];rfl
         have p1:w2.cell? ⟨wr.heap.size,1,none⟩=some (.int .i64 P.sort):=by rw[hw2,World.cell?_alloc_mark];rfl
         have p2:w2.cell? ⟨wr.heap.size,2,none⟩=some (.slice ra rl rc):=by rw[hw2,World.cell?_alloc_mark];rfl
         have hBW2:=hBW.trans (hb2.mono hBW.size);clear hb2;have y3:=cell_below hBW2 c3;by_cases hk0:k=0
         ·have i2:decide ((0:Int)<(k:Int))=false:=dA (by omega);have i2b:(k:Int)<=0:=(by omega);have i2n:decide (0<k)=false:=dA (by omega);have HLZ:Hid (∀ m,k=m+1->pM P.lab (G.prods.getD m default).lab=false):=fun m hm=>absurd hm (by omega);have HK0:=hid hk0;clear hk0;by_cases e1:P.sort<0
          ·have hv:=hid (HFB.o (mX (by omega)));have b6:decide (P.sort<0)=true:=eP e1;go_wp2_with fail;rw[<-hw2];clear hw2
           go_quiet (fail)
           go_wp2;go_ret;exact⟨by rw[hv.o]<;>rfl,hb.trans ((below_drewN hBW2 nq).mono hsz)⟩
          by_cases e2:(ns:Int)<=P.sort
          ·have hv:=hid (HFB.o (mX (by omega)));have b6:decide (P.sort<0)=false:=dA e1;have b7:decide ((ns:Int)<=P.sort)=true:=eP e2;go_wp2_with fail;rw[<-hw2];clear hw2
           go_quiet (fail)
           go_wp2;go_ret;exact⟨by rw[hv.o]<;>rfl,hb.trans ((below_drewN hBW2 nq).mono hsz)⟩
          by_cases e3:(12:Int)<(rl:Int)
          ·have hv:=hid (HFB.o (rZ (by have:=HRL.o;omega)));have b6:decide (P.sort<0)=false:=dA e1;have b7:decide ((ns:Int)<=P.sort)=false:=dA e2;have b8:decide ((12:Int)<(rl:Int))=true:=eP e3;go_wp2_with fail;rw[<-hw2];clear hw2
           go_quiet (fail)
           go_wp2;go_ret;exact⟨by rw[hv.o]<;>rfl,hb.trans ((below_drewN hBW2 nq).mono hsz)⟩
          have b6:decide (P.sort<0)=false:=dA e1;have b7:decide ((ns:Int)<=P.sort)=false:=dA e2;have b8:decide ((12:Int)<(rl:Int))=false:=dA e3;have e1':0<=P.sort:=(by omega);have e2':P.sort<(ns:Int):=(by omega);have e3':(rl:Int)<=12:=(by omega);clear e1 e2 e3;go_wp2_with fail;rw[<-hw2];clear hw2
          go_quiet (fail)
          have hBW3:=below_drewN hBW2 nq;have q2:(w2.drewN nq).cell? ⟨wr.heap.size,2,none⟩=some (.slice ra rl rc):=p2;clear p0 p1 p2 y3 x0 x1 x2 x3 d0 d1 d2 d3 d4;generalize wr.heap.size=pb at *;generalize w2.drewN nq=w3 at *;go_wp2_with fail
          go_loop [10] (fun i=>∃ q:Nat,q<=rl/\i=.int .i64 (q:Int)/\∀ j,j<q->mQ nt ns (P.rs.getD j 0)=true) (fun i=>rl-(RowKit.intOf i).toNat)
          case atStart=>exact⟨0,by omega,rfl,fun j hj=>by omega⟩
          case round =>
           obtain⟨q,hq,rfl,hjq⟩:=hrel;have HJQ:=hid hjq;clear hjq;by_cases hql:q<rl
           ·obtain⟨rb,ro,rfl,hcc⟩:=HRC.o (by have:=HRL.o;omega);have g:ay W1 rb (ro+q) (.int .i64 (P.rs.getD q 0)):=hcc q (by have:=HRL.o;omega);replace g:=cell_below hBW3 g;have hsr:=HRI.o (P.rs.getD q 0) (lu (by have:=HRL.o;omega));have HSY:Hid (mQ nt ns (P.rs.getD q 0)=true->∀ j,j<q+1->mQ nt ns (P.rs.getD j 0)=true):=fun h j hj=>by
             rcases Nat.lt_or_ge j q with h1 | h1
             ·exact HJQ.o j h1
             ·obtain rfl:j=q:=by omega
              exact h
            have HSN:Hid (mQ nt ns (P.rs.getD q 0)=false->V=false):=fun hf=>HFB.o (uV (j:=q) (by have:=HRL.o;omega) hf);clear hcc HJQ;obtain⟨s,hs⟩:=ai (P.rs.getD q 0);rw[hs]at g hsr HSY HSN;clear hs;have k0:(0:Int)<=(q:Int):=(by omega);have k1:(q:Int)<(rl:Int):=(by omega);have hsy:mQ nt ns s=decide (0<=s/\s<nt\/s<0/\-1-s<ns):=rfl;rw[hsy]at HSY HSN;clear hsy;by_cases f1:(nt:Int)<=s
            ·have hv:=hid (HSN.o (dA (by omega)));have b9:decide ((nt:Int)<=s)=true:=eP f1;go_wp2;go_ret;exact⟨by rw[hv.o]<;>rfl,hb.trans (hBW3.mono hsz)⟩
            by_cases f2:s < -(ns:Int)
            ·have hv:=hid (HSN.o (dA (by omega)));have b9:decide ((nt:Int)<=s)=false:=dA f1;have b10:decide (s < -(ns:Int))=true:=eP f2;go_wp2;go_ret;exact⟨by rw[hv.o]<;>rfl,hb.trans (hBW3.mono hsz)⟩
            have hv:=hid (HSY.o (eP (by omega)));have b9:decide ((nt:Int)<=s)=false:=dA f1;have b10:decide (s < -(ns:Int))=false:=dA f2;go_wp2;exact⟨⟨q+1,by omega,by go_num,hv.o⟩,by simp[RowKit.intOf];omega⟩
           ·have k1:¬ ((q:Int)<(rl:Int)):=(by omega);have hpb:=xN (nt:=nt) (ns:=ns) (p:=P) ⟨e1',e2'⟩ (by have:=HRL.o;omega) (fun j hj=>HJQ.o j (by have:=HRL.o;omega));have HA:=hid (HS1.o hpb);have HB:=hid (HS2.o HLZ.o);clear hpb;go_wp2;exact⟨⟨k+1,by omega,by go_num,hBW3,HA.o,HB.o⟩,by simp[RowKit.intOf];omega⟩
         ·obtain⟨m,hm⟩:∃ m,k=m+1:=⟨k-1,by omega⟩;have g0:=cell_below hBW2 (HPV.o m hm);have HL1:=HFL.o m hm;have i2:decide ((0:Int)<(k:Int))=true:=eP (by omega);have i2b:(0:Int)<(k:Int):=by omega
          have i2n:decide (0<k)=true:=eP (by omega);have i2m:0<k:=(by omega);have i5:IntKind.i64.wrap ((k:Int)-1)=(m:Int):=by rw[IntKind.wrap_i64];omega
          have i5b:(k:Int)-1=(m:Int):=(by omega);have i7:(0:Int)<=(m:Int):=(by omega);have i8:(m:Int)<(np:Int):=(by omega);have HL0:Hid (pM P.lab (G.prods.getD m default).lab=false->∀ m',k=m'+1->pM P.lab (G.prods.getD m' default).lab=false):=fun h m' hm'=>by
           obtain rfl:m'=m:=by omega
           exact h
          have HM:=hid hm;clear hm hk0;have r1:=AP (G.prods.getD m default).lab P.lab;generalize (G.prods.getD m default).lab=pl at *;generalize pM P.lab pl=LE at *;cases LE
          ·have HLZ:=hid (HL0.o rfl);clear HL0;by_cases e1:P.sort<0
           ·have hv:=hid (HFB.o (mX (by omega)));have b6:decide (P.sort<0)=true:=eP e1;go_wp2_with fail;rw[<-hw2];clear hw2
            go_quiet (fail)
            go_wp2;go_ret;exact⟨by rw[hv.o]<;>rfl,hb.trans ((below_drewN hBW2 nq).mono hsz)⟩
           by_cases e2:(ns:Int)<=P.sort
           ·have hv:=hid (HFB.o (mX (by omega)));have b6:decide (P.sort<0)=false:=dA e1;have b7:decide ((ns:Int)<=P.sort)=true:=eP e2;go_wp2_with fail;rw[<-hw2];clear hw2
            go_quiet (fail)
            go_wp2;go_ret;exact⟨by rw[hv.o]<;>rfl,hb.trans ((below_drewN hBW2 nq).mono hsz)⟩
           by_cases e3:(12:Int)<(rl:Int)
           ·have hv:=hid (HFB.o (rZ (by have:=HRL.o;omega)));have b6:decide (P.sort<0)=false:=dA e1;have b7:decide ((ns:Int)<=P.sort)=false:=dA e2;have b8:decide ((12:Int)<(rl:Int))=true:=eP e3;go_wp2_with fail;rw[<-hw2];clear hw2
            go_quiet (fail)
            go_wp2;go_ret;exact⟨by rw[hv.o]<;>rfl,hb.trans ((below_drewN hBW2 nq).mono hsz)⟩
           have b6:decide (P.sort<0)=false:=dA e1;have b7:decide ((ns:Int)<=P.sort)=false:=dA e2;have b8:decide ((12:Int)<(rl:Int))=false:=dA e3;have e1':0<=P.sort:=(by omega);have e2':P.sort<(ns:Int):=(by omega);have e3':(rl:Int)<=12:=(by omega);clear e1 e2 e3;go_wp2_with fail;rw[<-hw2];clear hw2
           go_quiet (fail)
           have hBW3:=below_drewN hBW2 nq;have q2:(w2.drewN nq).cell? ⟨wr.heap.size,2,none⟩=some (.slice ra rl rc):=p2;clear p0 p1 p2 y3 x0 x1 x2 x3 d0 d1 d2 d3 d4;generalize wr.heap.size=pb at *;generalize w2.drewN nq=w3 at *;go_wp2_with fail
           go_loop [10] (fun i=>∃ q:Nat,q<=rl/\i=.int .i64 (q:Int)/\∀ j,j<q->mQ nt ns (P.rs.getD j 0)=true) (fun i=>rl-(RowKit.intOf i).toNat)
           case atStart=>exact⟨0,by omega,rfl,fun j hj=>by omega⟩
           case round =>
            obtain⟨q,hq,rfl,hjq⟩:=hrel;have HJQ:=hid hjq;clear hjq;by_cases hql:q<rl
            ·obtain⟨rb,ro,rfl,hcc⟩:=HRC.o (by have:=HRL.o;omega);have g:ay W1 rb (ro+q) (.int .i64 (P.rs.getD q 0)):=hcc q (by have:=HRL.o;omega);replace g:=cell_below hBW3 g;have hsr:=HRI.o (P.rs.getD q 0) (lu (by have:=HRL.o;omega));have HSY:Hid (mQ nt ns (P.rs.getD q 0)=true->∀ j,j<q+1->mQ nt ns (P.rs.getD j 0)=true):=fun h j hj=>by
              rcases Nat.lt_or_ge j q with h1 | h1
              ·exact HJQ.o j h1
              ·obtain rfl:j=q:=by omega
               exact h
             have HSN:Hid (mQ nt ns (P.rs.getD q 0)=false->V=false):=fun hf=>HFB.o (uV (j:=q) (by have:=HRL.o;omega) hf);clear hcc HJQ;obtain⟨s,hs⟩:=ai (P.rs.getD q 0);rw[hs]at g hsr HSY HSN;clear hs;have k0:(0:Int)<=(q:Int):=(by omega);have k1:(q:Int)<(rl:Int):=(by omega);have hsy:mQ nt ns s=decide (0<=s/\s<nt\/s<0/\-1-s<ns):=rfl;rw[hsy]at HSY HSN;clear hsy;by_cases f1:(nt:Int)<=s
             ·have hv:=hid (HSN.o (dA (by omega)));have b9:decide ((nt:Int)<=s)=true:=eP f1;go_wp2;go_ret;exact⟨by rw[hv.o]<;>rfl,hb.trans (hBW3.mono hsz)⟩
             by_cases f2:s < -(ns:Int)
             ·have hv:=hid (HSN.o (dA (by omega)));have b9:decide ((nt:Int)<=s)=false:=dA f1;have b10:decide (s < -(ns:Int))=true:=eP f2;go_wp2;go_ret;exact⟨by rw[hv.o]<;>rfl,hb.trans (hBW3.mono hsz)⟩
             have hv:=hid (HSY.o (eP (by omega)));have b9:decide ((nt:Int)<=s)=false:=dA f1;have b10:decide (s < -(ns:Int))=false:=dA f2;go_wp2;exact⟨⟨q+1,by omega,by go_num,hv.o⟩,by simp[RowKit.intOf];omega⟩
            ·have k1:¬ ((q:Int)<(rl:Int)):=(by omega);have hpb:=xN (nt:=nt) (ns:=ns) (p:=P) ⟨e1',e2'⟩ (by have:=HRL.o;omega) (fun j hj=>HJQ.o j (by have:=HRL.o;omega));have HA:=hid (HS1.o hpb);have HB:=hid (HS2.o HLZ.o);clear hpb;go_wp2;exact⟨⟨k+1,by omega,by go_num,hBW3,HA.o,HB.o⟩,by simp[RowKit.intOf];omega⟩
          ·have HN2:=hid (HL1 rfl);go_wp2_with fail;rw[<-hw2];clear hw2
           go_quiet (fail)
           go_wp2;go_ret;exact⟨by rw[HN2.o]<;>rfl,hb.trans ((below_drewN hBW2 nq).mono hsz)⟩
        ·have hkk:k=np:=(by omega);have i1:¬ ((k:Int)<(np:Int)):=(by omega);have HA:Hid (G.prods.all (fP nt ns)=true):=BK (d:=default) fun j hj=>HJ.o j (by have:=NP.o;omega);have HRP:Hid (gQ (G.prods.map (·.lab))=true):=qY fun j hj=>by
          have hl:(G.prods.map (·.lab)).length=np:=by rw[List.length_map];exact NP.o
          rw[Bd _ (by have:=NP.o;omega),Bd _ (by have:=NP.o;omega)];exact HJ2.o j (by omega)
         have HV:Hid (V=true):=VW.o (by omega) (by omega) (by omega) HA.o HOV.o ⟨h4',h5'⟩ HRS.o HRP.o HRT.o;go_wp2;go_ret;exact⟨by rw[HV.o]<;>rfl,hb.trans (hBW.mono hsz)⟩
open aO (It bu aY jc ax bg iR wU)
theorem yG {G:GD}{x:It}{s:Int}(hv:aB G=true)(hb:aY G x=some s)(hs:s<0):-1-s<(G.sorts.length:Int)/\0<=-1-s:=by
 refine⟨?_,by omega⟩;have ht:=aO.bW.1 (aO.fA hb);unfold aO.aY at hb;rw[if_pos (aO.fA (by unfold aO.aY;exact hb))]at hb;obtain⟨hlt,he⟩:=List.getElem?_eq_some_iff.1 hb;obtain⟨_,_,_,hp,_,hst,_⟩:=bn hv;have hmem:s∈ax G x.1:=by rw[<-he];exact List.getElem_mem hlt
 by_cases h1:x.1=-1
 ·have e:ax G x.1=[-1-G.start]:=by unfold aO.ax;rw[if_pos h1]
  rw[e]at hmem;have:s=-1-G.start:=by simpa using hmem
  omega
 ·have e:ax G x.1=(G.prods.getD x.1.toNat default).rs:=by unfold aO.ax;rw[if_neg h1]
  rw[e]at hmem;have hlp:x.1.toNat<G.prods.length:=by omega
  have hpm:G.prods.getD x.1.toNat default∈G.prods:=by
   rw[dL,dH hlp];exact List.getElem_mem hlp
  have hq:=List.all_eq_true.1 hp _ hpm;unfold fP at hq;simp only[Bool.and_eq_true,decide_eq_true_eq]at hq;have hsy:=List.all_eq_true.1 hq.2 s hmem;unfold mQ at hsy;have:=of_decide_eq_true hsy;omega
def DZ (G:GD)(begun:Nat->Bool):Nat:=((List.range G.prods.length).filter fun p=>decide (0<=bg G p) && begun (bg G p).toNat).length
theorem cntB_le (G:GD)(begun:Nat->Bool):DZ G begun<=G.prods.length:=by
 unfold DZ;exact eX (List.length_filter_le _ _) (by simp)
theorem zT {α:Type}(f g h:α->Bool)(hd:∀ x,f x=true->g x=true->False)(he:∀ x,h x=(f x || g x)):∀ l:List α,(l.filter h).length=(l.filter f).length+(l.filter g).length
 | []=>rfl
 | x::l=>by
  have ih:=zT f g h hd he l;have hx:=he x;have hdx:=hd x;cases hf:f x<;>cases hg:g x<;>rw[hf,hg]at hx<;>simp only[Bool.or_false,Bool.or_true,Bool.false_or,Bool.true_or]at hx<;>simp[List.filter_cons,hx,hf,hg,ih]
  ·omega
  ·omega
  ·exact(hdx hf hg).elim
theorem Fh {G:GD}{begun:Nat->Bool}{t:Nat}(hb:begun t=false):DZ G (fun k=>if k=t then true else begun k)=DZ G begun+(jc G t G.prods.length).length:=by
 unfold DZ aO.jc;rw[List.length_map];refine zT (fun p=>decide (0<=bg G p) && begun (bg G p).toNat) (fun p=>bg G p == (t:Int)) _ (fun p h1 h2=>?_) (fun p=>?_) _
 ·simp only[Bool.and_eq_true,decide_eq_true_eq]at h1;have h3:bg G p=(t:Int):=by simpa using h2
  rw[h3,Int.toNat_natCast,hb]at h1;exact absurd h1.2 (by decide)
 ·by_cases h3:bg G p=(t:Int)
  ·rw[h3];simp
  ·have h4:(bg G p == (t:Int))=false:=by simpa using h3
   rw[h4,Bool.or_false];by_cases h0:0<=bg G p
   ·show(_ && (if (bg G p).toNat=t then true else begun _))=_;rw[if_neg (by omega)]
   ·simp[h0]
theorem IX (G:GD):DZ G (fun _=>false)=0:=by
 unfold DZ;simp
theorem Fj (G:GD)(l:List It):wU G l (l.filter (bu G)) (fun _=>false) 0:=
 ⟨fun x hx=>.base x (List.mem_filter.1 hx).1 (List.mem_filter.1 hx).2,fun x hx ht=>List.mem_filter.2 ⟨hx,ht⟩,fun _ _ h=>(by cases h),fun j _ _ hj=>absurd hj (Nat.not_lt_zero j)⟩
structure lX (G:GD) (l:List It) (w0 wr:World) (bG bo bb:Nat) (gb:Array Value) (O:List It) (g c:Nat) (begun:Nat->Bool) (i:Nat) (ds:List Nat):Prop where
 o:Out w0 wr bo O g c
 box:wr.heap[bG]?=some (.cells gb 27 (0,0))
 bools:wr.heap[bb]?=some (.cells ((Array.range G.sorts.length).map fun k=>.bool (begun k)) 4 (0,0))
 clos:wU G l O begun i
 len:O.length<=l.length+DZ G begun
 le:i<=O.length
 gG:g≠bG
 gb:g≠bb
 nd:ds.Nodup
 dge:∀ D∈ds,w0.heap.size<=D
 ds:∀ D∈ds,wr.heap[D]?=some (.deferred (some []))
abbrev lX.out:=@lX.o
theorem lX.below {G:GD}{l:List It}{w0 wr W:World}{bG bo bb:Nat}{gb:Array Value}{O:List It}{g c:Nat}{begun:Nat->Bool}{i:Nat}{ds:List Nat}(h:lX G l w0 wr bG bo bb gb O g c begun i ds)(hb:aj wr W):lX G l w0 W bG bo bb gb O g c begun i ds:=
 ⟨h.o.below hb,(hb.block _ (dZ h.box)).trans h.box,(hb.block _ (dZ h.bools)).trans h.bools,h.clos,h.len,h.le,h.gG,h.gb,h.nd,h.dge,fun D hD=>(hb.block _ (Array.getElem?_eq_some_iff.1 (h.ds D hD)).1).trans (h.ds D hD)⟩
theorem lX.dne {G:GD}{l:List It}{w0 wr:World}{bG bo bb:Nat}{gb:Array Value}{O:List It}{g c:Nat}{begun:Nat->Bool}{i:Nat}{ds:List Nat}(h:lX G l w0 wr bG bo bb gb O g c begun i ds){D:Nat}(hD:D∈ds):D≠g/\D≠bo/\D≠bb:=by
 have e:=h.ds D hD;refine⟨fun hx=>?_,fun hx=>?_,fun hx=>?_⟩
 ·rcases h.o.own.2 with⟨e1,_⟩ | ⟨g',cap,cur,e1,_,e2,_⟩
  ·cases e1
  ·obtain rfl:g=g':=by injection e1 with e1;injection e1 with e1;injection e1
   rw[<-hx,e]at e2;cases e2
 ·have e2:=h.o.box;rw[<-hx,e]at e2;cases e2
 ·have e2:=h.bools;rw[<-hx,e]at e2;cases e2
theorem lX.mark {G:GD}{l:List It}{w0 wr:World}{bG bo bb:Nat}{gb:Array Value}{O:List It}{g c:Nat}{begun:Nat->Bool}{i:Nat}{ds:List Nat}(h:lX G l w0 wr bG bo bb gb O g c begun i ds)(t:Nat)(hG:bG≠bb)(ho:bo≠bb)(hw:w0.heap.size<=bb) :
  Out w0 (wr.setCell ⟨bb,t,none⟩ (.bool true)) bo O g c/\(wr.setCell ⟨bb,t,none⟩ (.bool true)).heap[bG]?=some (.cells gb 27 (0,0)) /\
   (wr.setCell ⟨bb,t,none⟩ (.bool true)).heap[bb]?=some (.cells ((Array.range G.sorts.length).map fun k=>.bool ((fun k=>if k=t then true else begun k) k)) 4 (0,0))/\∀ D∈ds,(wr.setCell ⟨bb,t,none⟩ (.bool true)).heap[D]?=some (.deferred (some [])):=by
 have hk:∀ q,q≠bb->(wr.setCell ⟨bb,t,none⟩ (.bool true)).heap[q]?=wr.heap[q]?:=fun q hq=>Below.heap_setCell _ _ _ _ hq;refine⟨h.o.keep (hk _ ho) (hk _ h.gb) (h.o.bel.setCell hw _),(hk _ hG).trans h.box,?_,fun D hD=>(hk _ (h.dne hD).2.2).trans (h.ds D hD)⟩;have e:((Array.range G.sorts.length).map fun k=>Value.bool (begun k)).setIfInBounds t (.bool true)=(Array.range G.sorts.length).map fun k=>Value.bool ((fun k=>if k=t then true else begun k) k):=by
  refine Array.ext (by simp) fun k h1 h2=>?_;have h3:k<((Array.range G.sorts.length).map fun k=>Value.bool (begun k)).size:=by simpa using h1
  rw[Array.getElem_setIfInBounds h3,Array.getElem_map,Array.getElem_map,Array.getElem_range];by_cases hkt:t=k
  ·simp[hkt]
  ·have:¬ k=t:=fun e=>hkt e.symm;simp[hkt,this]
 rw[heap_setCell_same _ bb t _ 4 _ h.bools,e]
end Go.Proofs.YticmnfmijdgmbaaGreatDoor
