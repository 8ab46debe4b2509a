import Derived.Test.YticmnfmijdgmbaaGreatDoorSx
set_option linter.all false
set_option maxRecDepth 100000
set_option maxHeartbeats 8000000
namespace Go.Proofs.YticmnfmijdgmbaaGreatDoor
open Go Go.RowKit Go.Lib
open aO (It)
def ig (G:GD)(s:Int):Option Nat:=if 0<=s then(if s<(G.terms.length:Int)then some s.toNat else none)else(if -1-s<(G.sorts.length:Int)then some (G.terms.length+(-1-s).toNat)else none)
def ng (G:GD)(nx:List (List Int))(at_ s:Int):Int:=if 0<=at_/\at_<(nx.length:Int)then(match ig G s with
 | none=>-1
 | some p=>(nx.getD at_.toNat []).getD p (-1))else -1
def rO (G:GD)(nx:List (List Int)):Prop:=∀ R∈nx,R.length=G.terms.length+G.sorts.length/\∀ v∈R,v=-1\/(0<=v/\v<(nx.length:Int))
theorem rO.nil (G:GD):rO G []:=fun R h=>by cases h
theorem rO.built {G:GD}{n:Nat}(h:aO.aN G n):rO G (aO.ag G n).nx:=fun R hR=>by
 obtain⟨i,hi⟩:=List.mem_iff_getElem?.1 hR;obtain⟨hI,ha,hl⟩:=h.inv;have hrl:=hI.rl i R hi;rw[aO.kD]at hrl;refine⟨hrl,fun v hv=>?_⟩;obtain⟨k,hk⟩:=List.mem_iff_getElem?.1 hv;have hil:=(List.getElem?_eq_some_iff.1 hi).1;have hkl:=(List.getElem?_eq_some_iff.1 hk).1;have hnl:=(aO.iL G n).2;obtain⟨s,hs⟩:∃ s,(aO.cO G)[k]?=some s:=⟨_,dH (by rw[aO.kD];omega)⟩;rcases hI.gY (by rw[ha];omega) hs hi hk with⟨e,_⟩ | ⟨q,e,_,hq,_⟩
 ·exact .inl e
 ·exact .inr ⟨by omega,by omega⟩
theorem wY {G:GD}{nx:List (List Int)}{at_ s:Int}(h:¬ (0<=at_/\at_<(nx.length:Int))):ng G nx at_ s=-1:=by unfold ng;rw[if_neg h]
theorem qF {G:GD}{nx:List (List Int)}{at_ s:Int}(h:ig G s=none):ng G nx at_ s=-1:=by
 unfold ng;split
 ·rw[h]
 ·rfl
theorem qG {G:GD}{nx:List (List Int)}{i p:Nat}{s v:Int}{R:List Int}(h:ig G s=some p)(hi:nx[i]?=some R)(hp:R[p]?=some v):ng G nx (i:Int) s=v:=by
 have hl:=(List.getElem?_eq_some_iff.1 hi).1;unfold ng;rw[if_pos ⟨Int.natCast_nonneg _,by omega⟩,h];show(nx.getD i []).getD p (-1)=v;rw[aO.getD_get hi,aO.getD_get hp]
theorem FP {G:GD}{gv av:Value}{w:World}{ker:List (List It)}{nx:List (List Int)}(h:fZ w gv G)(ha:jY w av ker nx)(hok:rO G nx)(at_ s:Int)(s0:-9223372036854775808<=s)(s1:s<=9223372036854775807) :
  Calls Tryz.prog 27 #[gv,av,.int .i64 at_,.int .i64 s] w fun e w'=>e=.returned (.int .i64 (ng G nx at_ s))/\aj w w':=by
 obtain⟨tv,ov,sv,pv,tf,rv,h⟩:=h;have hgv:=h.eq;subst hgv;obtain⟨gY,tc,rfl,htn,_⟩:=h.terms;obtain⟨so,sc,rfl,hsn,_⟩:=h.sorts;obtain⟨kv,nv,rfl,hkv,hnv⟩:=ha;obtain⟨no,nc,rfl,hnn⟩:=hnv.len;obtain⟨W1,e1⟩:=ai (w.alloc (.cells #[.slice gY G.terms.length tc,ov,.slice so G.sorts.length sc,pv,.int .i64 G.start] 27));have hb1:aj w W1:=dM e1;have n1:W1.heap[w.heap.size]?=some (.cells #[.slice gY G.terms.length tc,ov,.slice so G.sorts.length sc,pv,.int .i64 G.start] 27 (0,0)):=dO e1;obtain⟨W2,e2⟩:=ai (W1.alloc (.cells #[kv,.slice no nx.length nc] 55));have hb2:aj W1 W2:=dM e2;have n2:W2.heap[W1.heap.size]?=some (.cells #[kv,.slice no nx.length nc] 55 (0,0)):=dO e2;have hbw:=hb1.trans (hb2.mono hb1.size);have n1':=(hb2.block _ (dZ n1)).trans n1;have lW:=(dZ n2);have c0:ay W2 w.heap.size 0 (.slice gY G.terms.length tc):=ak n1' 0;have c2:ay W2 w.heap.size 2 (.slice so G.sorts.length sc):=ak n1' 2;have d1:ay W2 W1.heap.size 1 (.slice no nx.length nc):=ak n2 1;have HBW:=hid hbw;have HNV:=hid (hnv.below (q:=fun i u=>dw W2 u (nx.getD i [])) hbw fun i u hu=>hu.mono hbw);have HOK:=hid hok;obtain⟨r,hr⟩:=ai (ng G nx at_ s);have HR:=hid hr;rw[hr];obtain⟨nt,hnt⟩:=ai (G.terms.length);obtain⟨ns,hns⟩:=ai (G.sorts.length);obtain⟨n,hn⟩:=ai (nx.length);have HN:=hid hn;have HLEN:=hid (show ∀ R∈nx,R.length=nt+ns/\∀ v∈R,v=-1\/(0<=v/\v<(n:Int))from by rw[<-hnt,<-hns,<-hn];exact hok);have hPX:ig G s=if 0<=s then(if s<(nt:Int)then some s.toNat else none)else(if -1-s<(ns:Int)then some (nt+(-1-s).toNat)else none):=by unfold ig;rw[hnt,hns]
 have HPX:=hid hPX;rw[hnt,hns]at e1 ⊢;rw[hn]at e2 d1 ⊢;rw[hnt]at c0;rw[hns]at c2;clear h hkv hnv hok hb1 hb2 n1 n2 n1' hbw hr hnt hns hn hPX;by_cases hat:0<=at_/\at_<(n:Int)
 case neg =>
  obtain rfl:-1=r:=by rw[<-HR.o,wY (by rw[HN.o];exact hat)]
  by_cases ha0:at_<0
  ·have z0:decide (at_<0)=true:=eP ha0;clear hat;go_enter Tryz.func27,Tryz.ntmps27;go_wp2_with fail;go_ret;exact⟨rfl,HBW.o⟩
  ·have z0:decide (at_<0)=false:=dA ha0;have z1:(n:Int)<=at_:=by omega
   clear hat;go_enter Tryz.func27,Tryz.ntmps27;go_wp2_with fail;go_ret;exact⟨rfl,HBW.o⟩
 obtain⟨i,rfl⟩:∃ i:Nat,at_=(i:Int):=⟨at_.toNat,by omega⟩;have hin:i<n:=by omega
 have z0:decide ((i:Int)<0)=false:=dA (by omega);have z1:decide (n<=i)=false:=dA (by omega);have z2:¬ (n:Int)<=(i:Int):=by omega
 have i0:(0:Int)<=(i:Int):=by omega
 have i1:(i:Int)<(n:Int):=by omega
 clear hat;obtain⟨R,hRx⟩:∃ R,nx[i]?=some R:=⟨_,dH (by rw[HN.o];exact hin)⟩;have HRX:=hid hRx;obtain⟨hRl,hRv⟩:=HLEN.o R (List.mem_of_getElem? hRx);have hnv2:=HNV.o;obtain⟨nb,noff,u,rfl,u1,u2⟩:=hnv2.at_ (k:=i) (by rw[HN.o];exact hin);rw[aO.getD_get hRx]at u2;obtain⟨⟨ro,rc,rfl,hrn,hrq⟩,_⟩:=u2;clear hnv2 hRx;by_cases hs:s<0
 ·have y0:decide (s<0)=true:=eP hs;have hws:IntKind.i64.wrap (-1-s)=-1-s:=wrap_small (by omega) (by omega);by_cases hq:-1-s<(ns:Int)
  ·obtain⟨t,hst⟩:∃ t:Nat,-1-s=(t:Int):=⟨(-1-s).toNat,by omega⟩;have y1:¬ (ns:Int)<=(t:Int):=by omega
   have y2:decide (ns<=t)=false:=dA (by omega);have HPL:=hid (show ig G s=some (t+nt)from by rw[HPX.o,if_neg (by omega),if_pos hq,hst,Int.toNat_natCast,Nat.add_comm]);have hpl:t+nt<nt+ns:=by omega
   rw[hst]at hws;obtain⟨v,hv⟩:∃ v,R[t+nt]?=some v:=⟨_,dH (by omega)⟩;obtain rfl:v=r:=by rw[<-HR.o,qG HPL.o HRX.o hv]
   have hvv:=hRv v (List.mem_of_getElem? hv);have hvl:=(List.getElem?_eq_some_iff.1 hv).1;obtain⟨rb,roff,rfl,hrq2⟩:=hrq (by omega);have u3:=hrq2 (t+nt) hvl;dsimp only at u3;rw[aO.getD_get hv]at u3;have k1:¬ (R.length:Int)<=((t:Int)+(nt:Int)):=by omega
   have k2:decide ((R.length:Int)<=((t:Int)+(nt:Int)))=false:=dA k1;have k3:((t:Int)+(nt:Int))<(R.length:Int):=by omega
   have k4:(0:Int)<=((t:Int)+(nt:Int)):=by omega
   have k6:(((t:Int)+(nt:Int))).toNat=t+nt:=by omega
   have k5:decide (R.length<=t+nt)=false:=dA (by omega);have HQ0:Hid (∀ w',aj W2 w'->w'.cell? ⟨rb,roff+(t+nt),none⟩=some (.int .i64 v)):=hid fun w' hC=>cell_below hC u3;have HQ1:Hid (∀ w',aj W2 w'->w'.cell? ⟨W1.heap.size,1,none⟩=some (.slice (some ⟨nb,noff,none⟩) n nc)):=hid fun w' hC=>cell_below hC d1;have hrl60:nt+ns<=9223372036854775807:=by omega
   clear hrq hrq2 hRv hv hRl;clear hq;rcases hvv with rfl | ⟨v0,v1⟩
   ·go_enter Tryz.func27,Tryz.ntmps27;go_wp2_with fail;refine ah (by kernel_rfl) (by kernel_rfl) ?_;iterate 21
     first
     | with_reducible refine BigFrame.wpQuiet_skip (by with_unfolding_all rfl) ?_
     | with_reducible refine BigFrame.wpQuiet_want (by kernel_rfl) (fun K hK=>?_)
       apply Exists.intro;refine⟨fun w' hC=>?_,hK _ ?_⟩
       ·have f0':=HQ0.o w' hC;have f1':=HQ1.o w' hC;unfold Oper.quietAt;go_simp
        first | with_reducible rfl | done
       clear hK K
     try simp only[Act.put,bP,bQ,bK]
    refine wpQuiet_nil ?_;intro w6 hb6;have HB6:=fJ HBW hb6;clear hb6;go_wp2_with fail;go_ret;exact⟨rfl,HB6.o⟩
   ·obtain⟨vn,rfl⟩:∃ vn:Nat,v=(vn:Int):=⟨v.toNat,by omega⟩;have x0:decide ((vn:Int)<0)=false:=dA (by omega);have x1:decide (n<=vn)=false:=dA (by omega);have x2:¬ (n:Int)<=(vn:Int):=by omega
    go_enter Tryz.func27,Tryz.ntmps27;go_wp2_with fail;refine ah (by kernel_rfl) (by kernel_rfl) ?_;iterate 21
     with_reducible refine BigFrame.wpQuiet_want (by kernel_rfl) (fun K hK=>?_)
     apply Exists.intro;refine⟨fun w' hC=>?_,hK _ ?_⟩
     ·have f0':=HQ0.o w' hC;have f1':=HQ1.o w' hC;unfold Oper.quietAt;go_simp
      first | with_reducible rfl | done
     clear hK K;try simp only[Act.put,bP,bQ,bK]
    refine wpQuiet_nil ?_;intro w6 hb6;have HB6:=fJ HBW hb6;have u3:=HQ0.o w6 hb6;clear hb6;go_wp2_with fail;go_ret;exact⟨rfl,HB6.o⟩
  ·have hq2:(ns:Int)<=-1-s:=by omega
   obtain⟨t,hst⟩:∃ t:Nat,-1-s=(t:Int):=⟨(-1-s).toNat,by omega⟩;have y1:(ns:Int)<=(t:Int):=by omega
   obtain rfl:-1=r:=by rw[<-HR.o,qF (by rw[HPX.o,if_neg (by omega),if_neg hq])]
   rw[hst]at hws;clear hq hq2;go_enter Tryz.func27,Tryz.ntmps27;go_wp2_with fail;go_ret;exact⟨rfl,HBW.o⟩
 ·have y0:decide (s<0)=false:=dA hs;obtain⟨t,rfl⟩:∃ t:Nat,s=(t:Int):=⟨s.toNat,by omega⟩;by_cases hq:t<nt
  ·have y1:¬ (nt:Int)<=(t:Int):=by omega
   have y2:decide (nt<=t)=false:=dA (by omega);have HPL:=hid (show ig G (t:Int)=some t from by rw[HPX.o,if_pos (by omega),if_pos (by omega),Int.toNat_natCast]);have hpl:t<nt+ns:=by omega
   obtain⟨v,hv⟩:∃ v,R[t]?=some v:=⟨_,dH (by omega)⟩;obtain rfl:v=r:=by rw[<-HR.o,qG HPL.o HRX.o hv]
   have hvv:=hRv v (List.mem_of_getElem? hv);have hvl:=(List.getElem?_eq_some_iff.1 hv).1;obtain⟨rb,roff,rfl,hrq2⟩:=hrq (by omega);have u3:=hrq2 (t) hvl;dsimp only at u3;rw[aO.getD_get hv]at u3;have k1:¬ (R.length:Int)<=(t:Int):=by omega
   have k2:decide ((R.length:Int)<=(t:Int))=false:=dA k1;have k3:(t:Int)<(R.length:Int):=by omega
   have k4:(0:Int)<=(t:Int):=by omega
   have k6:((t:Int)).toNat=t:=by omega
   have k5:decide (R.length<=t)=false:=dA (by omega);have HQ0:Hid (∀ w',aj W2 w'->w'.cell? ⟨rb,roff+(t),none⟩=some (.int .i64 v)):=hid fun w' hC=>cell_below hC u3;have HQ1:Hid (∀ w',aj W2 w'->w'.cell? ⟨W1.heap.size,1,none⟩=some (.slice (some ⟨nb,noff,none⟩) n nc)):=hid fun w' hC=>cell_below hC d1;have hrl60:nt+ns<=9223372036854775807:=by omega
   clear hrq hrq2 hRv hv hRl;clear hq;rcases hvv with rfl | ⟨v0,v1⟩
   ·go_enter Tryz.func27,Tryz.ntmps27;go_wp2_with fail;refine ah (by kernel_rfl) (by kernel_rfl) ?_;iterate 21
     first
     | with_reducible refine BigFrame.wpQuiet_skip (by with_unfolding_all rfl) ?_
     | with_reducible refine BigFrame.wpQuiet_want (by kernel_rfl) (fun K hK=>?_)
       apply Exists.intro;refine⟨fun w' hC=>?_,hK _ ?_⟩
       ·have f0':=HQ0.o w' hC;have f1':=HQ1.o w' hC;unfold Oper.quietAt;go_simp
        first | with_reducible rfl | done
       clear hK K
     try simp only[Act.put,bP,bQ,bK]
    refine wpQuiet_nil ?_;intro w6 hb6;have HB6:=fJ HBW hb6;clear hb6;go_wp2_with fail;go_ret;exact⟨rfl,HB6.o⟩
   ·obtain⟨vn,rfl⟩:∃ vn:Nat,v=(vn:Int):=⟨v.toNat,by omega⟩;have x0:decide ((vn:Int)<0)=false:=dA (by omega);have x1:decide (n<=vn)=false:=dA (by omega);have x2:¬ (n:Int)<=(vn:Int):=by omega
    go_enter Tryz.func27,Tryz.ntmps27;go_wp2_with fail;refine ah (by kernel_rfl) (by kernel_rfl) ?_;iterate 21
     with_reducible refine BigFrame.wpQuiet_want (by kernel_rfl) (fun K hK=>?_)
     apply Exists.intro;refine⟨fun w' hC=>?_,hK _ ?_⟩
     ·have f0':=HQ0.o w' hC;have f1':=HQ1.o w' hC;unfold Oper.quietAt;go_simp
      first | with_reducible rfl | done
     clear hK K;try simp only[Act.put,bP,bQ,bK]
    refine wpQuiet_nil ?_;intro w6 hb6;have HB6:=fJ HBW hb6;have u3:=HQ0.o w6 hb6;clear hb6;go_wp2_with fail;go_ret;exact⟨rfl,HB6.o⟩
  ·have y1:(nt:Int)<=(t:Int):=by omega
   obtain rfl:-1=r:=by rw[<-HR.o,qF (by rw[HPX.o,if_pos (by omega),if_neg (by omega)])]
   clear hq;go_enter Tryz.func27,Tryz.ntmps27;go_wp2_with fail;go_ret;exact⟨rfl,HBW.o⟩
end Go.Proofs.YticmnfmijdgmbaaGreatDoor
namespace Go.Proofs.YticmnfmijdgmbaaGreatDoor.aJ
def upto (s k:Nat):List Nat:=(List.range k).filter fun i=>s.testBit i
theorem Jo {s k:Nat}(h:s.testBit k=true):upto s (k+1)=upto s k++[k]:=by
 simp[upto,List.range_succ,h]
theorem Hw {s k:Nat}(h:s.testBit k=false):upto s (k+1)=upto s k:=by
 simp[upto,List.range_succ,h]
theorem upto_length (s k:Nat):(upto s k).length<=k:=by
 have:=List.length_filter_le (fun i=>s.testBit i) (List.range k);simpa[upto] using this
theorem shr_one (s k:Nat):s >>> k >>> 1=s >>> (k+1):=by rw[<-Nat.shiftRight_add]
theorem qp (s k:Nat):s.testBit k=decide (s >>> k % 2=1):=by
 rw[Nat.testBit_eq_decide_div_mod_eq,Nat.shiftRight_eq_div_pow]
def aZ (n:Int):Nat:=if 0<=n/\n<64 then 2 ^ n.toNat else 0
def qB (a b:Nat):Nat:=a ^^^ (a &&& b)
theorem jW (n:Int):aZ n<18446744073709551616:=by
 unfold aZ;split
 ·rename_i h;exact Nat.pow_lt_pow_right (by omega) (by omega:n.toNat<64)
 ·omega
theorem dN (n:Int)(i:Nat):(aZ n).testBit i=decide (0<=n/\n<64/\(i:Int)=n):=by
 unfold aZ;split
 ·rename_i h;rw[Nat.testBit_two_pow];by_cases e:n.toNat=i
  ·have:(i:Int)=n:=by omega
   simp[e,this,h.1,h.2]
  ·have:¬ (i:Int)=n:=by omega
   simp[e,this]
 ·rename_i h;simp;omega
theorem kX (a b i:Nat):(qB a b).testBit i=(a.testBit i && !b.testBit i):=by
 simp[qB,Nat.testBit_xor,Nat.testBit_and];cases a.testBit i<;>cases b.testBit i<;>rfl
theorem Dx {a:Nat}(h:a<18446744073709551616)(b:Nat):qB a b<18446744073709551616:=
 Nat.xor_lt_two_pow (n:=64) h (Nat.lt_of_le_of_lt Nat.and_le_left h)
theorem oH {a b:Nat}(ha:a<18446744073709551616)(hb:b<18446744073709551616):a ||| b<18446744073709551616:=
 Nat.or_lt_two_pow (n:=64) ha hb
theorem kC {a i:Nat}(ha:a<18446744073709551616)(hi:64<=i):a.testBit i=false:=
 Nat.testBit_lt_two_pow (Nat.lt_of_lt_of_le (show a<2 ^ 64 from ha) (Nat.pow_le_pow_right (by omega) hi))
theorem AC {a b:Nat}(ha:a<18446744073709551616)(hb:b<18446744073709551616)(h:∀ i,i<64->a.testBit i=b.testBit i):a=b:=
 Nat.eq_of_testBit_eq fun i=>by
  by_cases hi:i<64
  ·exact h i hi
  ·rw[kC ha (by omega),kC hb (by omega)]
theorem lD (a:Nat)(n:Int):(a &&& aZ n≠0)↔(0<=n/\n<64/\a.testBit n.toNat=true):=by
 constructor
 ·intro h;have:∃ i,(a &&& aZ n).testBit i=true:=Classical.byContradiction fun hn=>h (Nat.eq_of_testBit_eq fun i=>by
   rw[Nat.zero_testBit];cases e:(a &&& aZ n).testBit i
   ·rfl
   ·exact absurd ⟨i,e⟩ hn)
  obtain⟨i,hi⟩:=this;rw[Nat.testBit_and,dN]at hi;simp at hi;obtain⟨h1,h2,h3,h4⟩:=hi;refine⟨h2,h3,?_⟩;rw[show n.toNat=i by omega];exact h1
 ·rintro⟨h1,h2,h3⟩ h;have:(a &&& aZ n).testBit n.toNat=true:=by
   rw[Nat.testBit_and,dN,h3];simp;omega
  rw[h]at this;simp at this
theorem yf {a b:Nat}(ha:a<18446744073709551616):qB a b=0↔∀ i,i<64->a.testBit i=true->b.testBit i=true:=by
 constructor
 ·intro h i _ hi;have:=kX a b i;rw[h,hi]at this;simpa using this.symm
 ·intro h;refine AC (Dx ha b) (by omega) fun i hi=>?_;rw[kX];have:=h i hi;cases e:a.testBit i<;>simp_all
theorem J4 {s i:Nat} : i∈upto s 64↔i<64/\s.testBit i=true:=by simp[upto]
abbrev Ev:=Nat×(List Nat->Nat)
abbrev top:Nat:=18446744073709551616
abbrev fM (a b:Nat):Prop:=a ||| b=b
theorem eG {a b:Nat} : fM a b↔∀ i,a.testBit i=true->b.testBit i=true:=by
 constructor
 ·intro h i hi;have:=congrArg (fun n=>n.testBit i) h;simp only[Nat.testBit_or,hi,Bool.true_or]at this;exact this.symm
 ·intro h;refine Nat.eq_of_testBit_eq fun i=>?_;rw[Nat.testBit_or];have:=h i;cases e:a.testBit i<;>cases e2:b.testBit i<;>simp_all
theorem gB (a:Nat):fM a a:=Nat.or_self a
theorem dG {a b c:Nat}(h:fM a b)(k:fM b c):fM a c:=eG.2 fun i hi=>eG.1 k i (eG.1 h i hi)
theorem jI (a b:Nat):fM a (a ||| b):=eG.2 fun i hi=>by rw[Nat.testBit_or,hi];rfl
theorem fU (a b:Nat):fM b (a ||| b):=eG.2 fun i hi=>by rw[Nat.testBit_or,hi];simp
theorem uY {a b c:Nat}(h:fM a c)(k:fM b c):fM (a ||| b) c:=eG.2 fun i hi=>by
 rw[Nat.testBit_or,Bool.or_eq_true]at hi;exact hi.elim (eG.1 h i) (eG.1 k i)
theorem qg (a:Nat):fM 0 a:=Nat.zero_or a
theorem jk {a b:Nat}(h:fM a b)(k:fM b a):a=b:=by
 have h1:a ||| b=b:=h;have h2:b ||| a=a:=k;rw[<-h1,Nat.or_comm,h2]
theorem sub_le {a b:Nat}(h:fM a b):a<=b:=by
 have h1:a ||| b=b:=h;rw[<-h1];exact Nat.left_le_or
def stepS (L:List Nat)(e:Ev):List Nat:=L.set e.1 (L.getD e.1 0 ||| e.2 L)
inductive ji (evs:List Ev) (L0:List Nat):List Nat->Prop where
 | refl:ji evs L0 L0
 | step {L:List Nat}{e:Ev} : ji evs L0 L->e∈evs->ji evs L0 (stepS L e)
def lY (evs:List Ev)(L:List Nat):Prop:=∀ e∈evs,fM (e.2 L) (L.getD e.1 0)
def SetEv (e:Ev):Prop:=∀ L:List Nat,(∀ x∈L,x<top)->e.2 L<top
theorem lN (L:List Nat)(e:Ev):(stepS L e).length=L.length:=by simp[stepS]
theorem getD_lt {L:List Nat}(h:∀ x∈L,x<top)(i:Nat):L.getD i 0<top:=by
 rw[dL];cases e:L[i]? with
 | none=>decide
 | some x=>exact h x (List.mem_of_getElem? e)
theorem Ey {L:List Nat}(h:∀ x∈L,x<top)(i:Nat){v:Nat}(hv:v<top):∀ x∈L.set i v,x<top:=by
 intro x hx;rcases List.mem_or_eq_of_mem_set hx with h1 | h1
 ·exact h x h1
 ·rw[h1];exact hv
theorem zo {L:List Nat}{i:Nat} : L.set i (L.getD i 0)=L:=by
 refine List.ext_getElem (by simp) fun j h1 h2=>?_;rw[List.getElem_set];split
 ·rename_i e;subst e;rw[dL,dH h2];rfl
 ·rfl
def room (L:List Nat):Nat:=(L.map fun a=>top-a).sum
theorem CS:∀ (L:List Nat)(i v:Nat),i<L.length->L.getD i 0<v->v<top->room (L.set i v)<room L
 | [],i,v,h,_,_=>by simp at h
 | b::L,0,v,_,h,hv=>by
  have h':b<v:=by simpa using h
  simp only[room,List.set_cons_zero,List.map_cons,List.sum_cons];omega
 | b::L,i+1,v,h,h2,hv=>by
  have ih:=CS L i v (by simpa using h) (by simpa using h2) hv;simp only[room,List.set_cons_succ,List.map_cons,List.sum_cons]at ih ⊢;omega
theorem qw (L:List Nat)(e:Ev)(h:e.1<L.length)(hL:∀ x∈L,x<top)(he:e.2 L<top) :
  (L.getD e.1 0 ||| e.2 L)=L.getD e.1 0/\stepS L e=L/\fM (e.2 L) (L.getD e.1 0)\/(L.getD e.1 0 ||| e.2 L)≠L.getD e.1 0/\room (stepS L e)<room L:=by
 unfold stepS;by_cases hx:(L.getD e.1 0 ||| e.2 L)=L.getD e.1 0
 ·left;refine⟨hx,by rw[hx];exact zo,?_⟩;show e.2 L ||| L.getD e.1 0=L.getD e.1 0;rw[Nat.or_comm];exact hx
 ·right;have h1:=sub_le (jI (L.getD e.1 0) (e.2 L));exact⟨hx,CS L _ _ h (by omega) (oH (getD_lt hL _) he)⟩
def pI (evs done:List Ev)(L0 L:List Nat)(c:Bool):Prop:=
 ji evs L0 L/\L.length=L0.length/\(∀ x∈L,x<top)/\(c=false->L=L0/\lY done L0)/\(c=true->room L<room L0)/\room L<=room L0
theorem Dc (evs:List Ev){L0:List Nat}(h:∀ x∈L0,x<top):pI evs [] L0 L0 false:=
 ⟨.refl,rfl,h,fun _=>⟨rfl,fun e he=>absurd he (by simp)⟩,fun h=>(by cases h),bJ _⟩
theorem AZ {evs done:List Ev}{L0 L:List Nat}{c:Bool}(h:pI evs done L0 L c){e:Ev}(he:e∈evs)(hs:e.1<L0.length)(hv:e.2 L<top) :
  pI evs (done++[e]) L0 (stepS L e) (c || (L.getD e.1 0 ||| e.2 L) != L.getD e.1 0):=by
 obtain⟨hr,hl,hL,hf,ht,hm⟩:=h;have hLs:∀ x∈stepS L e,x<top:=Ey hL _ (oH (getD_lt hL _) hv);rcases qw L e (by omega) hL hv with⟨e1,e2,e3⟩ | ⟨e1,e2⟩
 ·rw[e1,e2,bne_self_eq_false,Bool.or_false];refine⟨hr,hl,hL,fun hc=>?_,ht,hm⟩;obtain⟨rfl,hi⟩:=hf hc;refine⟨rfl,fun x hx=>?_⟩;rcases List.mem_append.1 hx with h1 | h1
  ·exact hi x h1
  ·simp only[List.mem_singleton]at h1;subst h1;exact e3
 ·rw[bne_iff_ne.2 e1,Bool.or_true];exact⟨.step hr he,by rw[lN];exact hl,hLs,fun h=>(by cases h),fun _=>by omega,by omega⟩
theorem xR {evs:List Ev}{L0 L:List Nat}(h:pI evs evs L0 L false):L=L0/\lY evs L:=by
 obtain⟨rfl,h2⟩:=h.2.2.2.1 rfl;exact⟨rfl,h2⟩
theorem AY {evs:List Ev}{a b c:List Nat}(h1:ji evs a b)(h2:ji evs b c):ji evs a c:=by
 induction h2 with
 | refl=>exact h1
 | step _ hp ih=>exact .step ih hp
theorem nY {evs:List Ev}{a b:List Nat}(h:ji evs a b):b.length=a.length:=by
 induction h with
 | refl=>rfl
 | step _ _ ih=>rw[lN,ih]
def Jf (a b:List Nat):Prop:=∀ i,fM (a.getD i 0) (b.getD i 0)
def FM (e:Ev):Prop:=∀ a b,Jf a b->fM (e.2 a) (e.2 b)
theorem reachS_least {evs:List Ev}{a b M:List Nat}(h:ji evs a b)(ha:Jf a M)(hm:∀ e∈evs,FM e)(hM:lY evs M):Jf b M:=by
 induction h with
 | refl=>exact ha
 | step _ hp ih =>
  rename_i L e _;intro i;unfold stepS;rw[dL,List.getElem?_set];split
  ·rename_i e';subst e';split
   ·exact uY (ih _) (dG (hm _ hp _ _ ih) (hM _ hp))
   ·exact qg _
  ·rw[<-dL];exact ih i
def fV (evs:List Ev)(n:Nat)(L:List Nat):Prop:=ji evs (List.replicate n 0) L/\lY evs L/\∀ x∈L,x<top
theorem fV.length {evs:List Ev}{n:Nat}{L:List Nat}(h:fV evs n L):L.length=n:=by
 rw[nY h.1];simp
theorem Dp (n:Nat)(M:List Nat):Jf (List.replicate n 0) M:=by
 intro i;rw[dL,List.getElem?_replicate];split<;>exact qg _
theorem fV.le {evs:List Ev}{n:Nat}{L M:List Nat}(h:fV evs n L)(hm:∀ e∈evs,FM e)(hM:lY evs M):Jf L M:=reachS_least h.1 (Dp n M) hm hM
theorem fV.same {evs:List Ev}{n:Nat}{L M:List Nat}(h:fV evs n L)(h2:fV evs n M)(hm:∀ e∈evs,FM e):L=M:=by
 have h3:=h.le hm h2.2.1;have h4:=h2.le hm h.2.1;refine List.ext_getElem (by rw[h.length,h2.length]) fun i a b=>?_;have e:=jk (h3 i) (h4 i);rw[dL,dL,dH a,dH b]at e;exact e
def ofRow (nt:Nat)(E:List Bool)(F:List Nat):List Int->Nat->Nat
 | [],b=>b
 | s::l,b=>if 0<=s then(if s<nt then aZ s else 0)else if (F.length:Int)<=-1-s then 0 else
  F.getD (-1-s).toNat 0 ||| (if E.getD (-1-s).toNat false=true then ofRow nt E F l b else 0)
theorem iJ (nt:Nat)(E:List Bool){F:List Nat}(hF:∀ x∈F,x<top):∀ (l:List Int) {b:Nat},b<top->ofRow nt E F l b<top
 | [],b,hb=>hb
 | s::l,b,hb=>by
  unfold ofRow;have ih:=iJ nt E hF l hb;split
  ·split
   ·exact jW s
   ·decide
  ·split
   ·decide
   ·refine oH (getD_lt hF _) ?_;split
    ·exact ih
    ·decide
theorem su (nt:Nat)(E:List Bool){F F':List Nat}(h:Jf F F')(hl:F.length=F'.length):∀ (l:List Int) {b b':Nat},fM b b'->fM (ofRow nt E F l b) (ofRow nt E F' l b')
 | [],b,b',hb=>hb
 | s::l,b,b',hb=>by
  have ih:=su nt E h hl l hb;unfold ofRow;split
  ·exact gB _
  ·rw[<-hl];split
   ·exact gB _
   ·refine uY (dG (h _) (jI _ _)) ?_;split
    ·exact dG ih (fU _ _)
    ·exact qg _
end Go.Proofs.YticmnfmijdgmbaaGreatDoor.aJ
