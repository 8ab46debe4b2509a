import Derived.BigQuiet
import Derived.Deep.QuietTactic
import Derived.Deep.RegionHeld3
import Derived.Laws.BitsLemmas
import Derived.WalkSmall
import Derived.Test.YticmnfmijdgmbaaGreatDoorGa
set_option linter.all false
set_option maxRecDepth 100000
set_option maxHeartbeats 1000000
namespace Go.Proofs.YticmnfmijdgmbaaGreatDoor
open Go Go.RowKit Go.Lib
theorem Ja (n c:Int)(w:World):Calls Tryz.prog 97 #[.int .i64 n,.int .i64 c] w fun e w'=>e=.returned (.bool (decide (0<=n/\n<c)))/\w'=w:=by
 go_enter Tryz.func97,Tryz.ntmps97;go_wp2;all_goals
  go_ret;refine⟨?_,rfl⟩;refine congrArg (fun b=>Ending.returned (Value.bool b)) ?_;rw[Bool.eq_iff_iff];simp only[Bool.decide_and,Bool.and_eq_true,decide_eq_true_eq,Bool.false_eq_true,false_iff];omega
theorem name_s (x:ByteArray)(w:World):Calls Tryz.prog 99 #[.string x] w fun e w'=>e=.returned (.string x)/\w'=w:=by
 go_enter Tryz.func99,Tryz.ntmps99;go_wp2;go_ret;exact⟨rfl,rfl⟩
def pM (x y:ByteArray):Bool:=Op.bytesLess x.toList y.toList || x.toList == y.toList
theorem AO (x y:ByteArray)(w:World):(binOp .leq 9 (.string x) (.string y)).run Tryz.prog w=.ok (.bool (pM x y)) w:=rfl
def gQ (l:List ByteArray):Bool:=decide (∀ k,k<l.length-1->pM (l.getD (k+1) ByteArray.empty) (l.getD k ByteArray.empty)=false)
theorem qY {l:List ByteArray}(h:∀ j,j<l.length-1->pM (l.getD (j+1) ByteArray.empty) (l.getD j ByteArray.empty)=false):gQ l=true:=eP h
theorem AU {l:List ByteArray}{k:Nat}(h1:k+1<l.length)(h:pM (l.getD (k+1) ByteArray.empty) (l.getD k ByteArray.empty)=true):gQ l=false:=
 dA fun h'=>by have:=h' k (by omega);rw[h]at this;cases this
theorem name_p (x:ByteArray)(s r c:Value)(w:World):Calls Tryz.prog 101 #[.agg #[.string x,s,r,c]] w fun e w'=>e=.returned (.string x)/\w'=w.alloc (.cells #[.string x,s,r,c] 71):=by
 go_enter Tryz.func101,Tryz.ntmps101;go_wp2;go_ret;exact⟨rfl,rfl⟩
theorem name_t (x:ByteArray)(s r c:Value)(w:World):Calls Tryz.prog 103 #[.agg #[.string x,s,r,c]] w fun e w'=>e=.returned (.string x)/\w'=w.alloc (.cells #[.string x,s,r,c] 105):=by
 go_enter Tryz.func103,Tryz.ntmps103;go_wp2;go_ret;exact⟨rfl,rfl⟩
theorem rise_s (l:List ByteArray)(sv:Value)(w:World)(h:yM w sv l):Calls Tryz.prog 98 #[sv,.func (.func 99) #[] #[]] w fun e w'=>e=.returned (.bool (gQ l))/\aj w w':=by
 obtain⟨sa,sc,rfl,hsn,hs⟩:=h;have RU:=hid (qY (l:=l));have RN:=hid (fun k=>AU (l:=l) (k:=k));generalize hB:gQ l=B at *;clear hB;generalize hnl:l.length=n at *;go_enter Tryz.func98,Tryz.ntmps98;go_wp2
 go_loopw [5] (fun i wr=>∃ k:Nat,(k+1<=n\/k=0)/\i=.int .i64 ((k:Int)+1)/\aj w wr/\∀ j,j<k->pM (l.getD (j+1) ByteArray.empty) (l.getD j ByteArray.empty)=false) (fun i _=>n-(RowKit.intOf i).toNat)
 case atStart=>exact⟨0,by omega,rfl,eH _ _,fun j hj=>by omega⟩
 case round =>
  obtain⟨k,hk,rfl,hwb,hj⟩:=hrel;have HJ:=hid hj;clear hj;have hsz:=hwb.size;by_cases hlt:k+1<n
  ·obtain⟨b,off,rfl,hc⟩:=hs (by omega);have g1:=cell_below hwb (hc (k+1) hlt);have g2:=cell_below hwb (hc k (by omega));have HS:Hid (pM (l.getD (k+1) ByteArray.empty) (l.getD k ByteArray.empty)=false->∀ j,j<k+1->pM (l.getD (j+1) ByteArray.empty) (l.getD j ByteArray.empty)=false):=fun h j hj=>by
    rcases Nat.lt_or_ge j k with h1 | h1
    ·exact HJ.o j h1
    ·obtain rfl:j=k:=by omega
     exact h
   have HN:=hid (RN.o k hlt);clear hc HJ;generalize l.getD k ByteArray.empty=x at *;generalize l.getD (k+1) ByteArray.empty=y at *;have i0:(0:Int)<=(k:Int)+1:=by omega
   have i1:(k:Int)+1<(n:Int):=by omega
   have i3:(0:Int)<=(k:Int):=by omega
   have i4:(k:Int)<(n:Int):=by omega
   have i5:IntKind.i64.wrap (k:Int)=(k:Int):=by rw[IntKind.wrap_i64];omega
   have i6:((k:Int)+1).toNat=k+1:=by omega
   have r1:=AO y x;generalize pM y x=LE at *;go_wp2_with fail
   go_quiet ((go_at_call 99;exact Calls.quiet_of_same (name_s _ _)))
   replace hwb:=below_drewN hwb nq;clear i5 i6;cases LE
   ·have HS2:=hid (HS.o rfl);go_wp2;exact⟨⟨k+1,by omega,by go_num,hwb,HS2.o⟩,by simp[RowKit.intOf];omega⟩
   ·have HN2:=hid (HN.o rfl);go_wp2;go_ret;exact⟨by rw[HN2.o]<;>rfl,hwb⟩
  ·have i1:¬ ((k:Int)+1<(n:Int)):=by omega
   have HT:Hid (B=true):=RU.o fun j hj=>HJ.o j (by omega);go_wp2;go_ret;exact⟨by rw[HT.o]<;>rfl,hwb⟩
theorem rise_p (l:List PD)(rv:Nat->Value)(sv:Value)(w:World)(h:rJ w sv l rv):Calls Tryz.prog 100 #[sv,.func (.func 101) #[] #[]] w fun e w'=>e=.returned (.bool (gQ (l.map (·.lab))))/\aj w w':=by
 obtain⟨sa,sc,rfl,hsn,hs⟩:=h;have RU:=hid (qY (l:=(l.map (·.lab))));have RN:=hid (fun k=>AU (l:=(l.map (·.lab))) (k:=k));have hln:(l.map (·.lab)).length=l.length:=by simp
 generalize hB:gQ (l.map (·.lab))=B at *;rw[hln]at RU RN;clear hB;generalize hnl:l.length=n at *;go_enter Tryz.func100,Tryz.ntmps100;go_wp2
 go_loopw [5] (fun i wr=>∃ k:Nat,(k+1<=n\/k=0)/\i=.int .i64 ((k:Int)+1)/\aj w wr/\∀ j,j<k->pM ((l.map (·.lab)).getD (j+1) ByteArray.empty) ((l.map (·.lab)).getD j ByteArray.empty)=false) (fun i _=>n-(RowKit.intOf i).toNat)
 case atStart=>exact⟨0,by omega,rfl,eH _ _,fun j hj=>by omega⟩
 case round =>
  obtain⟨k,hk,rfl,hwb,hj⟩:=hrel;have HJ:=hid hj;clear hj;have hsz:=hwb.size;by_cases hlt:k+1<n
  ·obtain⟨b,off,rfl,hc⟩:=hs (by omega);obtain⟨c0,c1,c2,c3⟩:=hc (k+1) hlt;obtain⟨d0,d1,d2,d3⟩:=hc k (by omega);replace c0:=cell_below hwb c0;replace c1:=cell_below hwb c1;replace c2:=cell_below hwb c2;replace c3:=cell_below hwb c3;replace d0:=cell_below hwb d0;replace d1:=cell_below hwb d1;replace d2:=cell_below hwb d2;replace d3:=cell_below hwb d3;have e1:(l.map (·.lab)).getD k ByteArray.empty=(l.getD k default).lab:=by simp[dL,dH (show k<l.length by omega)]
   have e2:(l.map (·.lab)).getD (k+1) ByteArray.empty=(l.getD (k+1) default).lab:=by simp[dL,dH (show k+1<l.length by omega)]
   rw[<-e1]at d0;rw[<-e2]at c0;clear e1 e2;have HS:Hid (pM ((l.map (·.lab)).getD (k+1) ByteArray.empty) ((l.map (·.lab)).getD k ByteArray.empty)=false->∀ j,j<k+1->pM ((l.map (·.lab)).getD (j+1) ByteArray.empty) ((l.map (·.lab)).getD j ByteArray.empty)=false):=fun h j hj=>by
    rcases Nat.lt_or_ge j k with h1 | h1
    ·exact HJ.o j h1
    ·obtain rfl:j=k:=by omega
     exact h
   have HN:=hid (RN.o k hlt);clear hc HJ;generalize (l.map (·.lab)).getD k ByteArray.empty=x at *;generalize (l.map (·.lab)).getD (k+1) ByteArray.empty=y at *;generalize Value.int IntKind.i64 (l.getD (k+1) default).sort=vc1 at *;generalize rv (k+1)=vc2 at *;generalize Value.int IntKind.i64 (l.getD (k+1) default).cls=vc3 at *;generalize Value.int IntKind.i64 (l.getD k default).sort=vd1 at *;generalize rv k=vd2 at *;generalize Value.int IntKind.i64 (l.getD k default).cls=vd3 at *;have i0:(0:Int)<=(k:Int)+1:=by omega
   have i1:(k:Int)+1<(n:Int):=by omega
   have i3:(0:Int)<=(k:Int):=by omega
   have i4:(k:Int)<(n:Int):=by omega
   have i5:IntKind.i64.wrap (k:Int)=(k:Int):=by rw[IntKind.wrap_i64];omega
   have i6:((k:Int)+1).toNat=k+1:=by omega
   have r1:=AO y x;generalize pM y x=LE at *;go_wp2_with fail;have hb1:=World.block_lt_of_cell? wr _ c0
   go_region_held3 (fun w'=>w'.cell? ⟨b,off+(k+1)*4,none⟩=some (.string y)/\w'.cell? ⟨b,off+(k+1)*4+1,none⟩=some vc1/\w'.cell? ⟨b,off+(k+1)*4+2,none⟩=some vc2/\w'.cell? ⟨b,off+(k+1)*4+3,none⟩=some vc3/\w'.cell? ⟨b,off+k*4,none⟩=some (.string x)/\w'.cell? ⟨b,off+k*4+1,none⟩=some vd1/\w'.cell? ⟨b,off+k*4+2,none⟩=some vd2/\w'.cell? ⟨b,off+k*4+3,none⟩=some vd3)
    (go_keep)
    ((go_at_call 101;refine(name_p _ _ _ _ _).mono ?_;rintro e w6 ⟨rfl,rfl⟩))
   replace hwb:=((hwb.alloc hsz (.cells #[.string y,vc1,vc2,vc3] 71)).alloc (by simp;omega) (.cells #[.string x,vd1,vd2,vd3] 71)).drew;clear i5 i6;cases LE
   ·have HS2:=hid (HS.o rfl);go_wp2;exact⟨⟨k+1,by omega,by go_num,hwb,HS2.o⟩,by simp[RowKit.intOf];omega⟩
   ·have HN2:=hid (HN.o rfl);go_wp2;go_ret;exact⟨by rw[HN2.o]<;>rfl,hwb⟩
  ·have i1:¬ ((k:Int)+1<(n:Int)):=by omega
   have HT:Hid (B=true):=RU.o fun j hj=>HJ.o j (by omega);go_wp2;go_ret;exact⟨by rw[HT.o]<;>rfl,hwb⟩
theorem rise_t (l:List ByteArray)(tf:Nat->Nat->Value)(sv:Value)(w:World)(h:uD w sv l tf):Calls Tryz.prog 102 #[sv,.func (.func 103) #[] #[]] w fun e w'=>e=.returned (.bool (gQ l))/\aj w w':=by
 obtain⟨sa,sc,rfl,hsn,hs⟩:=h;have RU:=hid (qY (l:=l));have RN:=hid (fun k=>AU (l:=l) (k:=k));generalize hB:gQ l=B at *;clear hB;generalize hnl:l.length=n at *;go_enter Tryz.func102,Tryz.ntmps102;go_wp2
 go_loopw [5] (fun i wr=>∃ k:Nat,(k+1<=n\/k=0)/\i=.int .i64 ((k:Int)+1)/\aj w wr/\∀ j,j<k->pM (l.getD (j+1) ByteArray.empty) (l.getD j ByteArray.empty)=false) (fun i _=>n-(RowKit.intOf i).toNat)
 case atStart=>exact⟨0,by omega,rfl,eH _ _,fun j hj=>by omega⟩
 case round =>
  obtain⟨k,hk,rfl,hwb,hj⟩:=hrel;have HJ:=hid hj;clear hj;have hsz:=hwb.size;by_cases hlt:k+1<n
  ·obtain⟨b,off,rfl,hc⟩:=hs (by omega);obtain⟨c0,c1,c2,c3⟩:=hc (k+1) hlt;obtain⟨d0,d1,d2,d3⟩:=hc k (by omega);replace c0:=cell_below hwb c0;replace c1:=cell_below hwb c1;replace c2:=cell_below hwb c2;replace c3:=cell_below hwb c3;replace d0:=cell_below hwb d0;replace d1:=cell_below hwb d1;replace d2:=cell_below hwb d2;replace d3:=cell_below hwb d3;have HS:Hid (pM (l.getD (k+1) ByteArray.empty) (l.getD k ByteArray.empty)=false->∀ j,j<k+1->pM (l.getD (j+1) ByteArray.empty) (l.getD j ByteArray.empty)=false):=fun h j hj=>by
    rcases Nat.lt_or_ge j k with h1 | h1
    ·exact HJ.o j h1
    ·obtain rfl:j=k:=by omega
     exact h
   have HN:=hid (RN.o k hlt);clear hc HJ;generalize l.getD k ByteArray.empty=x at *;generalize l.getD (k+1) ByteArray.empty=y at *;generalize tf (k+1) 1=vc1 at *;generalize tf (k+1) 2=vc2 at *;generalize tf (k+1) 3=vc3 at *;generalize tf k 1=vd1 at *;generalize tf k 2=vd2 at *;generalize tf k 3=vd3 at *;have i0:(0:Int)<=(k:Int)+1:=by omega
   have i1:(k:Int)+1<(n:Int):=by omega
   have i3:(0:Int)<=(k:Int):=by omega
   have i4:(k:Int)<(n:Int):=by omega
   have i5:IntKind.i64.wrap (k:Int)=(k:Int):=by rw[IntKind.wrap_i64];omega
   have i6:((k:Int)+1).toNat=k+1:=by omega
   have r1:=AO y x;generalize pM y x=LE at *;go_wp2_with fail;have hb1:=World.block_lt_of_cell? wr _ c0
   go_region_held3 (fun w'=>w'.cell? ⟨b,off+(k+1)*4,none⟩=some (.string y)/\w'.cell? ⟨b,off+(k+1)*4+1,none⟩=some vc1/\w'.cell? ⟨b,off+(k+1)*4+2,none⟩=some vc2/\w'.cell? ⟨b,off+(k+1)*4+3,none⟩=some vc3/\w'.cell? ⟨b,off+k*4,none⟩=some (.string x)/\w'.cell? ⟨b,off+k*4+1,none⟩=some vd1/\w'.cell? ⟨b,off+k*4+2,none⟩=some vd2/\w'.cell? ⟨b,off+k*4+3,none⟩=some vd3)
    (go_keep)
    ((go_at_call 103;refine(name_t _ _ _ _ _).mono ?_;rintro e w6 ⟨rfl,rfl⟩))
   replace hwb:=((hwb.alloc hsz (.cells #[.string y,vc1,vc2,vc3] 105)).alloc (by simp;omega) (.cells #[.string x,vd1,vd2,vd3] 105)).drew;clear i5 i6;cases LE
   ·have HS2:=hid (HS.o rfl);go_wp2;exact⟨⟨k+1,by omega,by go_num,hwb,HS2.o⟩,by simp[RowKit.intOf];omega⟩
   ·have HN2:=hid (HN.o rfl);go_wp2;go_ret;exact⟨by rw[HN2.o]<;>rfl,hwb⟩
  ·have i1:¬ ((k:Int)+1<(n:Int)):=by omega
   have HT:Hid (B=true):=RU.o fun j hj=>HJ.o j (by omega);go_wp2;go_ret;exact⟨by rw[HT.o]<;>rfl,hwb⟩
def mQ (nt ns:Nat)(s:Int):Bool:=decide (0<=s/\s<nt\/s<0/\-1-s<ns)
def fP (nt ns:Nat)(p:PD):Bool:=decide (0<=p.sort/\p.sort<ns) && decide (p.rs.length<=12) && p.rs.all (mQ nt ns)
theorem xN {nt ns:Nat}{p:PD}(h1:0<=p.sort/\p.sort<ns)(h2:p.rs.length<=12)(h3:∀ j,j<p.rs.length->mQ nt ns (p.rs.getD j 0)=true):fP nt ns p=true:=by
 unfold fP;rw[eP h1,eP h2,Bool.true_and,Bool.true_and,List.all_eq_true];intro x hx;obtain⟨j,hj,rfl⟩:=List.getElem_of_mem hx;have:=h3 j hj
 rwa [dL,dH hj]at this
theorem mX {nt ns:Nat}{p:PD}(h:¬ (0<=p.sort/\p.sort<ns)):fP nt ns p=false:=by
 unfold fP;rw[dA h];rfl
theorem rZ {nt ns:Nat}{p:PD}(h:¬ (p.rs.length<=12)):fP nt ns p=false:=by
 unfold fP;rw[dA h,Bool.and_false];rfl
theorem uV {nt ns:Nat}{p:PD}{j:Nat}(hj:j<p.rs.length)(h:mQ nt ns (p.rs.getD j 0)=false):fP nt ns p=false:=by
 unfold fP;rw[show p.rs.all (mQ nt ns)=false from ?_,Bool.and_false];rw[Bool.eq_false_iff];intro h';rw[List.all_eq_true]at h';have:=h' _ (List.getElem_mem hj);rw[dL,dH hj]at h;rw[show mQ nt ns p.rs[j]=false from h]at this;cases this
theorem oL (n c:Int)(w:World):Calls Tryz.prog 97 #[.int .i64 n,.int .i64 c] w fun e w'=>e=.returned (.bool (decide (0<=n/\n<c)))/\w=w':=
 (Ja n c w).mono fun _ _ ⟨h1,h2⟩=>⟨h1,h2.symm⟩
theorem pr_box (w:World)(lab:ByteArray)(s:Int)(r c:Value) :
  ∃ W1 B,W1=w.alloc (.cells #[.string lab,.int .i64 s,r,c] 71)/\B=w.heap.size/\W1.cell? ⟨B,0,none⟩=some (.string lab)/\W1.cell? ⟨B,1,none⟩=some (.int .i64 s)/\W1.cell? ⟨B,2,none⟩=some r /\
   W1.cell? ⟨B,3,none⟩=some c/\aj w W1:=by
 refine⟨_,_,rfl,rfl,?_,?_,?_,?_,(eH _ _).alloc (bJ _) _⟩<;>(rw[World.cell?_alloc_mark];rfl)
theorem yY {G:GD}{gv tv ov sv pv:Value}{tf:Nat->Nat->Value}{rv:Nat->Value}{w:World}(h:nJ w gv G tv ov sv pv tf rv)(p:PD)(rp:Value)(hp:dw w rp p.rs) :
  Calls Tryz.prog 96 #[gv,.agg #[.string p.lab,.int .i64 p.sort,rp,.int .i64 p.cls]] w fun e w'=>e=.returned (.bool (fP G.terms.length G.sorts.length p))/\aj w w':=by
 obtain⟨W1,B,hW1,hB,c0,c1,c2,c3,c4,hG,hb,hsz⟩:=gU h;obtain⟨W2,B2,hW2,hB2,d0,d1,d2,d3,hb2⟩:=pr_box W1 p.lab p.sort rp (.int .i64 p.cls);have ht:=hG.terms;have hs:=hG.sorts;have hgv:=hG.eq;replace hp:=(hp.mono hb).mono hb2;obtain⟨⟨ra,rc,rfl,hrn,hrc⟩,hri⟩:=hp;replace c0:=cell_below hb2 c0;replace c2:=cell_below hb2 c2;replace hb:=hb.trans (hb2.mono hsz);have hsz2:W1.heap.size=w.heap.size+1:=by rw[hW1];simp
 rw[hsz2,<-hB]at hB2;clear hG h c1 c3 c4 hb2 hsz d0 d3 hsz2;subst hgv;obtain⟨ta,tc,rfl,htn,_⟩:=ht;obtain⟨sa,sc,rfl,hsn,_⟩:=hs;have PS:=hid (mX (p:=p) (nt:=G.terms.length) (ns:=G.sorts.length));have PL:=hid (rZ (p:=p) (nt:=G.terms.length) (ns:=G.sorts.length));have PN:=hid (fun j=>uV (p:=p) (nt:=G.terms.length) (ns:=G.sorts.length) (j:=j));have PU:=hid (xN (p:=p) (nt:=G.terms.length) (ns:=G.sorts.length));generalize fP G.terms.length G.sorts.length p=PB at *;generalize G.terms.length=nt at *;generalize G.sorts.length=ns at *;have kS:=hid fun w=>oL p.sort (ns:Int) w;have kT:=hid fun(s:Int) w=>oL s (nt:Int) w;have kN:=hid fun(s:Int) w=>oL (-1-s) (ns:Int) w;by_cases hso:0<=p.sort/\p.sort<ns
 case neg =>
  rw[dA hso]at kS;have PS':=hid (PS.o hso);clear hso PL PN PU kT kN hrc hri;go_enter Tryz.func96,Tryz.ntmps96;go_wp2_with fail;rw[<-hW1,<-hW2,<-hB,<-hB2];clear hW1 hW2 hB hB2;refine(kS.o _).mono ?_;rintro e w' ⟨rfl,rfl⟩;go_wp2;go_ret;exact⟨by rw[PS'.o]<;>rfl,hb⟩
 rw[eP hso]at kS;replace PU:=hid (PU.o hso);clear PS hso;generalize p.sort=so at *;generalize hrs:p.rs=rs at *;clear hrs;generalize hrl:rs.length=rl at *;by_cases h12:rl<=12
 case neg =>
  have PL':=hid (PL.o h12);have h12':(12:Int)<(rl:Int):=by omega
  clear PN PU kT kN hrc hri;go_enter Tryz.func96,Tryz.ntmps96;go_wp2_with fail;rw[<-hW1,<-hW2,<-hB,<-hB2];clear hW1 hW2 hB hB2;refine(kS.o _).mono ?_;rintro e w' ⟨rfl,rfl⟩;go_wp2;go_ret;exact⟨by rw[PL'.o]<;>rfl,hb⟩
 have h12':(rl:Int)<=12:=by omega
 replace PU:=hid (PU.o h12);clear PL;have HI:Hid (∀ j,j<rl->-9223372036854775808<=rs.getD j 0/\rs.getD j 0<=9223372036854775807):=fun j hj=>hri _ (by
  rw[dL,dH (by omega)];exact List.getElem_mem _)
 clear hri;go_enter Tryz.func96,Tryz.ntmps96;go_wp2_with fail;rw[<-hW1,<-hW2,<-hB,<-hB2];clear hW1 hW2 hB hB2;refine(kS.o _).mono ?_;rintro e w' ⟨rfl,rfl⟩;go_wp2
 go_loop [23] (fun i=>∃ k:Nat,k<=rl/\i=.int .i64 (k:Int)/\∀ j,j<k->mQ nt ns (rs.getD j 0)=true) (fun i=>rl-(RowKit.intOf i).toNat)
 case atStart=>exact⟨0,by omega,rfl,fun j hj=>by omega⟩
 case round =>
  obtain⟨k,hk,rfl,hj⟩:=hrel;have HJ:=hid hj;clear hj;by_cases hlt:k<rl
  ·obtain⟨b,off,rfl,hc⟩:=hrc (by omega);have e0:=hc k hlt;obtain⟨m1,m2⟩:=HI.o k hlt;have HS:Hid (mQ nt ns (rs.getD k 0)=true->∀ j,j<k+1->mQ nt ns (rs.getD j 0)=true):=fun h j hj=>by
    rcases Nat.lt_or_ge j k with h1 | h1
    ·exact HJ.o j h1
    ·obtain rfl:j=k:=by omega
     exact h
   have HN:=hid (PN.o k hlt);have i1:(k:Int)<(rl:Int):=by omega
   have i0:(0:Int)<=(k:Int):=by omega
   clear hc HJ PN PU hrc;generalize rs.getD k 0=s at *;have hsy:mQ nt ns s=decide (0<=s/\s<nt\/s<0/\-1-s<ns):=rfl;generalize mQ nt ns s=sb at *;by_cases hs0:0<=s
   ·replace kT:=hid (kT.o s);by_cases hst:s<nt
    ·rw[eP ⟨hs0,hst⟩]at kT;rw[eP (by omega)]at hsy;subst hsy;have HS2:=hid (HS.o rfl);clear HS HN hst kN;go_wp2_with fail;refine(kT.o _).mono ?_;rintro e w' ⟨rfl,rfl⟩;go_wp2;exact⟨⟨k+1,by omega,by go_num,HS2.o⟩,by simp[RowKit.intOf];omega⟩
    ·rw[dA (fun h=>hst h.2)]at kT;rw[dA (by omega)]at hsy;subst hsy;have HN2:=hid (HN.o rfl);clear HS HN hst kN;go_wp2_with fail;refine(kT.o _).mono ?_;rintro e w' ⟨rfl,rfl⟩;go_wp2;go_ret;exact⟨by rw[HN2.o]<;>rfl,hb⟩
   ·replace kN:=hid (kN.o s);have hs1:s<0:=by omega
    have i5:IntKind.i64.wrap (-1-s)=-1-s:=by rw[IntKind.wrap_i64];omega
    by_cases hst:-1-s<ns
    ·rw[eP ⟨by omega,hst⟩]at kN;rw[eP (by omega)]at hsy;subst hsy;have HS2:=hid (HS.o rfl);clear HS HN hst kT hs0;go_wp2_with fail;refine(kN.o _).mono ?_;rintro e w' ⟨rfl,rfl⟩;go_wp2;exact⟨⟨k+1,by omega,by go_num,HS2.o⟩,by simp[RowKit.intOf];omega⟩
    ·rw[dA (fun h=>hst h.2)]at kN;rw[dA (by omega)]at hsy;subst hsy;have HN2:=hid (HN.o rfl);clear HS HN hst kT hs0;go_wp2_with fail;refine(kN.o _).mono ?_;rintro e w' ⟨rfl,rfl⟩;go_wp2;go_ret;exact⟨by rw[HN2.o]<;>rfl,hb⟩
  ·have i1:¬ ((k:Int)<(rl:Int)):=by omega
   have HT:Hid (PB=true):=PU.o fun j hj=>HJ.o j (by omega);clear PU PN HI;go_wp2;go_ret;exact⟨by rw[HT.o]<;>rfl,hb⟩
def lq (nt:Nat)(q:Int×Int):Bool:=decide (0<=q.1/\q.1<nt) && decide (0<=q.2/\q.2<nt)
def aB (G:GD):Bool:=
 decide (G.terms.length<=60) && decide (G.sorts.length<=60) && decide (G.prods.length<=120) && G.prods.all (fP G.terms.length G.sorts.length) && G.over.all (lq G.terms.length) &&
  (decide (0<=G.start/\G.start<G.sorts.length) && gQ G.sorts && gQ (G.prods.map (·.lab)) && gQ G.terms)
theorem BK {α:Type}{l:List α}{f:α->Bool}{d:α}(h:∀ j,j<l.length->f (l.getD j d)=true):l.all f=true:=by
 rw[List.all_eq_true];intro x hx;obtain⟨j,hj,rfl⟩:=List.getElem_of_mem hx;have:=h j hj
 rwa [dL,dH hj]at this
theorem L8 {α:Type}{l:List α}{f:α->Bool}{d:α}{j:Nat}(hj:j<l.length)(h:f (l.getD j d)=false):l.all f=false:=by
 rw[Bool.eq_false_iff];intro h';rw[List.all_eq_true]at h';have:=h' _ (List.getElem_mem hj);rw[dL,dH hj]at h;rw[show f l[j]=false from h]at this;cases this
theorem kQ {w:World}{p:Addr}{v:Value}{o:Obj}(h:w.cell? p=some v):(w.alloc o).cell? p=some v:=
 cell_below ((eH _ _).alloc (bJ _) o) h
theorem mO {G:GD}{gv tv ov sv pv:Value}{tf:Nat->Nat->Value}{rv:Nat->Value}{w:World}(h:nJ w gv G tv ov sv pv tf rv) :
  Calls Tryz.prog 58 #[gv] w fun e w'=>e=.returned (.bool (aB G))/\aj w w':=by
 obtain⟨W1,B,hW1,hB,c0,c1,c2,c3,c4,hG,hb,hsz⟩:=gU h;have hV:aB G=(decide (G.terms.length<=60) && decide (G.sorts.length<=60) && decide (G.prods.length<=120) && G.prods.all (fP G.terms.length G.sorts.length) && G.over.all (lq G.terms.length) &&
  (decide (0<=G.start/\G.start<G.sorts.length) && gQ G.sorts && gQ (G.prods.map (·.lab)) && gQ G.terms)):=rfl
 have hgv:=hG.eq;subst hgv;have ht:=hG.terms;have ho:=hG.over;have hs:=hG.sorts;have hp:=hG.prods;obtain⟨ta,tc,rfl,htn,_⟩:=ht;obtain⟨oa,oc,rfl,hon,ho⟩:=ho;obtain⟨sa,sc,rfl,hsn,_⟩:=hs;obtain⟨pa,pc,rfl,hpn,hp⟩:=hp;by_cases hbig:60<G.terms.length\/60<G.sorts.length\/120<G.prods.length
 case pos =>
  have hVF:aB G=false:=by
   rw[hV];have:(decide (G.terms.length<=60) && decide (G.sorts.length<=60) && decide (G.prods.length<=120))=false:=by
    rw[Bool.eq_false_iff];simp only[ne_eq,Bool.and_eq_true,decide_eq_true_eq];omega
   rw[this];simp
  generalize aB G=V at *;subst hVF;clear hV h ho hp hG;generalize G.terms.length=nt at *;generalize G.sorts.length=ns at *;generalize G.prods.length=np at *;rcases hbig with h1 | ⟨h2⟩ | ⟨h3⟩;all_goals
   go_enter Tryz.func58,Tryz.ntmps58;go_wp2_with fail;all_goals
    rw[<-hW1];go_ret;exact⟨rfl,hb⟩
 have hb60:(G.terms.length:Int)<=60/\(G.sorts.length:Int)<=60/\(G.prods.length:Int)<=120:=by omega
 obtain⟨n60,s60,p120⟩:=hb60;have HG:=hid hG;have kp:=hid (fun(W:World) (hb:aj W1 W) (k:Nat) (hk:k<G.prods.length)=>yY (hG.mono hb) (G.prods.getD k default) (rv k) ((hG.rights k hk).mono hb));have hV1:Hid (∀ j,j<G.prods.length->fP G.terms.length G.sorts.length (G.prods.getD j default)=false->aB G=false):=fun j hj h=>by
  rw[hV,L8 hj h];simp
 have hV2:Hid (∀ j,j<G.over.length->lq G.terms.length (G.over.getD j (0,0))=false->aB G=false):=fun j hj h=>by
  rw[hV,L8 hj h];simp
 have hV3:Hid ((∀ j,j<G.prods.length->fP G.terms.length G.sorts.length (G.prods.getD j default)=true)->(∀ j,j<G.over.length->lq G.terms.length (G.over.getD j (0,0))=true) ->
   aB G=(decide (0<=G.start/\G.start<G.sorts.length) && gQ G.sorts && gQ (G.prods.map (·.lab)) && gQ G.terms)):=fun h1 h2=>by
  rw[hV,BK h1,BK h2,eP (by omega:G.terms.length<=60),eP (by omega:G.sorts.length<=60),eP (by omega:G.prods.length<=120)];simp
 have k1:=hid (fun(W:World) (hb:aj W1 W)=>rise_s _ _ W (hG.sorts.mono hb));have k2:=hid (fun(W:World) (hb:aj W1 W)=>rise_p _ _ _ W (hG.prods.mono hb));have k3:=hid (fun(W:World) (hb:aj W1 W)=>rise_t _ _ _ W (hG.terms.mono hb));clear hV hG h hbig;generalize aB G=V at *;generalize gQ G.sorts=v1 at *;generalize gQ (G.prods.map (·.lab))=v2 at *;generalize gQ G.terms=v3 at *;generalize G.start=st at *;generalize hnt:G.terms.length=nt at *;generalize hns:G.sorts.length=ns at *;generalize hnp:G.prods.length=np at *;generalize hno:G.over.length=no at *;go_enter Tryz.func58,Tryz.ntmps58;go_wp2_with fail;rw[<-hW1,<-hB];clear hW1 hB
 go_loopw [26] (fun i wr=>∃ k:Nat,k<=np/\i=.int .i64 (k:Int)/\aj W1 wr/\∀ j,j<k->fP nt ns (G.prods.getD j default)=true) (fun i _=>np-(RowKit.intOf i).toNat)
 case atStart=>exact⟨0,by omega,rfl,eH _ _,fun j hj=>by omega⟩
 case round =>
  obtain⟨k,hk,rfl,hw,hj⟩:=hrel;have HJ:=hid hj;clear hj;have hsw:=hw.size;have f0:=cell_below hw c0;have f1:=cell_below hw c1;have f2:=cell_below hw c2;have f3:=cell_below hw c3;have f4:=cell_below hw c4;by_cases hlt:k<np
  ·obtain⟨b,off,rfl,hc⟩:=hp (by omega);obtain⟨d0,d1,d2,d3⟩:=hc k hlt;replace d0:=cell_below hw d0;replace d1:=cell_below hw d1;replace d2:=cell_below hw d2;replace d3:=cell_below hw d3;have HS:Hid (fP nt ns (G.prods.getD k default)=true->∀ j,j<k+1->fP nt ns (G.prods.getD j default)=true):=fun h j hj=>by
    rcases Nat.lt_or_ge j k with h1 | h1
    ·exact HJ.o j h1
    ·obtain rfl:j=k:=by omega
     exact h
   have HN:=hid (hV1.o k hlt);have i1:(k:Int)<(np:Int):=by omega
   have i0:(0:Int)<=(k:Int):=by omega
   have kp2:=hid fun W hb=>kp.o W hb k hlt;obtain⟨⟨ra,rc,hrk,_⟩,_⟩:=HG.o.rights k (by omega);rw[hrk]at d2 kp2;clear hrk;clear hc HJ hV1 hV2 hV3 hp ho kp k1 k2 k3 c0 c1 c2 c3 c4;generalize fP nt ns (G.prods.getD k default)=pb at *;generalize G.prods.getD k default=P at *;generalize P.rs.length=rl at *;have a0:=fun o=>kQ (o:=o) f0;have a1:=fun o=>kQ (o:=o) f1;have a2:=fun o=>kQ (o:=o) f2;have a3:=fun o=>kQ (o:=o) f3;have a4:=fun o=>kQ (o:=o) f4;go_wp2_with fail;refine(kp2.o _ (hw.alloc hsw _)).mono ?_;rintro e w2 ⟨rfl,hb2⟩;replace hw:=(hw.alloc hsw _).trans (hb2.mono (by simp;omega));cases pb
   ·have HN2:=hid (HN.o rfl);go_wp2;go_ret;exact⟨by rw[HN2.o]<;>rfl,hb.trans (hw.mono hsz)⟩
   ·have HS2:=hid (HS.o rfl);go_wp2;exact⟨⟨k+1,by omega,by go_num,hw,HS2.o⟩,by simp[RowKit.intOf];omega⟩
  ·have hkk:k=np:=by omega
   subst hkk;replace hV3:=hid (hV3.o HJ.o);clear HJ hV1 hp kp;go_wp2_with fail;clear f0 f1 f2 f3 f4
   go_loopw [38] (fun i wr=>∃ k:Nat,k<=no/\i=.int .i64 (k:Int)/\aj W1 wr/\∀ j,j<k->lq nt (G.over.getD j (0,0))=true) (fun i _=>no-(RowKit.intOf i).toNat)
   case atStart=>exact⟨0,by omega,rfl,hw,fun j hj=>by omega⟩
   case round =>
    clear hw hsw;obtain⟨q,hq,rfl,hw,hj⟩:=hrel;have HJ:=hid hj;clear hj;have hsw:=hw.size;have f0:=cell_below hw c0;have f1:=cell_below hw c1;have f2:=cell_below hw c2;have f3:=cell_below hw c3;have f4:=cell_below hw c4;by_cases hlt2:q<no
    ·obtain⟨b2,off2,rfl,hc⟩:=ho (by omega);obtain⟨d0,d1⟩:=hc q hlt2;replace d0:=cell_below hw d0;replace d1:=cell_below hw d1;have HS:Hid (lq nt (G.over.getD q (0,0))=true->∀ j,j<q+1->lq nt (G.over.getD j (0,0))=true):=fun h j hj=>by
      rcases Nat.lt_or_ge j q with h1 | h1
      ·exact HJ.o j h1
      ·obtain rfl:j=q:=by omega
       exact h
     have HN:=hid (hV2.o q hlt2);have i1:(q:Int)<(no:Int):=(by omega);have i0:(0:Int)<=(q:Int):=(by omega);have a0:=fun o=>kQ (o:=o) f0;have hpb:lq nt (G.over.getD q (0,0))=(decide (0<=(G.over.getD q (0,0)).1/\(G.over.getD q (0,0)).1<nt) && decide (0<=(G.over.getD q (0,0)).2/\(G.over.getD q (0,0)).2<nt)):=rfl;have m1:=hid fun w=>oL (G.over.getD q (0,0)).1 nt w;have m2:=hid fun w=>oL (G.over.getD q (0,0)).2 nt w;clear hc HJ hV2 hV3 ho k1 k2 k3 c0 c1 c2 c3 c4;generalize lq nt (G.over.getD q (0,0))=pb at *;generalize decide (0<=(G.over.getD q (0,0)).1/\(G.over.getD q (0,0)).1<nt)=z1 at *;generalize decide (0<=(G.over.getD q (0,0)).2/\(G.over.getD q (0,0)).2<nt)=z2 at *;generalize (G.over.getD q (0,0)).1=x1 at *;generalize (G.over.getD q (0,0)).2=x2 at *;have hw2:=hw.alloc hsw (.cells #[.int .i64 x1,.int .i64 x2] 94);cases z1
     ·obtain rfl:pb=false:=hpb;have HN2:=hid (HN.o rfl);go_wp2_with fail;refine(m1.o _).mono ?_;rintro e w' ⟨rfl,rfl⟩;go_wp2;go_ret;exact⟨by rw[HN2.o]<;>rfl,hb.trans (hw2.mono hsz)⟩
     ·cases z2
      ·obtain rfl:pb=false:=hpb;have HN2:=hid (HN.o rfl);go_wp2_with fail;refine(m1.o _).mono ?_;rintro e w' ⟨rfl,rfl⟩;go_wp2_with fail;refine(m2.o _).mono ?_;rintro e w' ⟨rfl,rfl⟩;go_wp2;go_ret;exact⟨by rw[HN2.o]<;>rfl,hb.trans (hw2.mono hsz)⟩
      ·obtain rfl:pb=true:=hpb;have HS2:=hid (HS.o rfl);go_wp2_with fail;refine(m1.o _).mono ?_;rintro e w' ⟨rfl,rfl⟩;go_wp2_with fail;refine(m2.o _).mono ?_;rintro e w' ⟨rfl,rfl⟩;go_wp2;exact⟨⟨q+1,by omega,by go_num,hw2,HS2.o⟩,by simp[RowKit.intOf];omega⟩
    ·have hkk:q=no:=(by omega);subst hkk;replace hV3:=hid (hV3.o HJ.o);clear HJ hV2;have m0:=hid fun w=>oL st ns w;generalize decide (0<=st/\st<(ns:Int))=v0 at *;cases v0
     ·have HV:Hid (V=false):=hV3.o;go_wp2_with fail;refine(m0.o _).mono ?_;rintro e w' ⟨rfl,rfl⟩;go_wp2;go_ret;exact⟨by rw[HV.o]<;>rfl,hb.trans (hw.mono hsz)⟩
     cases v1
     ·have HV:Hid (V=false):=hV3.o;go_wp2_with fail;refine(m0.o _).mono ?_;rintro e w' ⟨rfl,rfl⟩;go_wp2_with fail;refine(k1.o _ hw).mono ?_;rintro e w5 ⟨rfl,hb5⟩;replace hw:=hw.trans (hb5.mono hw.size);go_wp2;go_ret;exact⟨by rw[HV.o]<;>rfl,hb.trans (hw.mono hsz)⟩
     cases v2
     ·have HV:Hid (V=false):=hV3.o;go_wp2_with fail;refine(m0.o _).mono ?_;rintro e w' ⟨rfl,rfl⟩;go_wp2_with fail;refine(k1.o _ hw).mono ?_;rintro e w5 ⟨rfl,hb5⟩;replace hw:=hw.trans (hb5.mono hw.size);replace f3:=cell_below hb5 f3;go_wp2_with fail;refine(k2.o _ hw).mono ?_;rintro e w6 ⟨rfl,hb6⟩;replace hw:=hw.trans (hb6.mono hw.size);go_wp2;go_ret;exact⟨by rw[HV.o]<;>rfl,hb.trans (hw.mono hsz)⟩
     have HV:Hid (V=v3):=hV3.o;go_wp2_with fail;refine(m0.o _).mono ?_;rintro e w' ⟨rfl,rfl⟩;go_wp2_with fail;refine(k1.o _ hw).mono ?_;rintro e w5 ⟨rfl,hb5⟩;replace hw:=hw.trans (hb5.mono hw.size);replace f3:=cell_below hb5 f3;replace f0:=cell_below hb5 f0;go_wp2_with fail;refine(k2.o _ hw).mono ?_;rintro e w6 ⟨rfl,hb6⟩;replace hw:=hw.trans (hb6.mono hw.size);replace f0:=cell_below hb6 f0;go_wp2_with fail;refine(k3.o _ hw).mono ?_;rintro e w7 ⟨rfl,hb7⟩;replace hw:=hw.trans (hb7.mono hw.size);go_wp2;go_ret;exact⟨by rw[HV.o]<;>rfl,hb.trans (hw.mono hsz)⟩
end Go.Proofs.YticmnfmijdgmbaaGreatDoor
