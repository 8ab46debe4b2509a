import Derived.Test.YticmnfmijdgmbaaGreatDoorZk
import Derived.Test.YticmnfmijdgmbaaGreatDoorZn
set_option linter.all false
set_option maxRecDepth 100000
set_option maxHeartbeats 8000000
namespace Go.Proofs.YticmnfmijdgmbaaGreatDoor
open Go Go.RowKit Go.Lib
open aO (It)
open wQ
theorem rH {w:World}{v:Value}{n:Nat}{p q:Nat->Value->Prop}(h:bz w v n p)(hpq:∀ i u,i<n->p i u->q i u):bz w v n q:=by
 obtain⟨a,cap,rfl,hn,h⟩:=h;refine⟨a,cap,rfl,hn,fun h0=>?_⟩;obtain⟨b,off,rfl,hc⟩:=h h0;exact⟨b,off,rfl,fun i hi=>by
  obtain⟨u,h1,h2⟩:=hc i hi;exact⟨u,h1,hpq i u hi h2⟩⟩
theorem DV {w:World}{u v:Value}{l m:List It}(hu:aS w u l)(hv:aS w v m) :
  Calls Tryz.prog 118 #[u,v] w fun e w'=>e=.returned (.bool (decide (l=m)))/\aj w w':=by
 obtain⟨uo,uc,rfl,hul,hux⟩:=hu;obtain⟨vo,vc,rfl,hvl,hvx⟩:=hv;obtain⟨N,hN⟩:=ai (l.length);obtain⟨M,hM⟩:=ai (m.length);rw[hN]at hul hux ⊢;rw[hM]at hvl hvx ⊢;have HN:=hid (And.intro hN hM);clear hN hM;by_cases hNM:N=M
 ·subst hNM;have HUX:=hid hux;have HVX:=hid hvx;have HS:=hid (show l.take 0=m.take 0 from rfl);have HB:=hid (eH w.heap.size w);clear hux hvx;go_enter Tryz.func118,Tryz.ntmps118;go_wp2_with fail
  go_loopw [5,13] (fun t5 t13 wr=>∃ (i:Nat),i<=N/\t13=.int .i64 (i:Int)/\Hid (aj w wr)/\Hid (l.take i=m.take i)) (fun _ t13 _=>N-(RowKit.intOf t13).toNat)
  case atStart=>exact⟨0,Nat.zero_le _,rfl,HB,HS⟩
  case round =>
   clear HB HS;obtain⟨i,hiN,rfl,HB,HS⟩:=hrel;by_cases hlt:i<N
   ·have j1:(i:Int)<(N:Int):=(by omega);have j0:(0:Int)<=(i:Int):=(by omega);obtain⟨ub,uf,rfl,hu1⟩:=HUX.o (by omega);obtain⟨vb,vf,rfl,hv1⟩:=HVX.o (by omega);have hu2:=hu1 i hlt;have hv2:=hv1 i hlt;obtain⟨a,ha⟩:∃ a,l[i]?=some a:=⟨_,dH (by rw[HN.o.1];exact hlt)⟩;obtain⟨b,hb⟩:∃ b,m[i]?=some b:=⟨_,dH (by rw[HN.o.2];exact hlt)⟩;rw[dL,ha]at hu2;rw[dL,hb]at hv2;obtain⟨hu2,hu3⟩:=hu2;have hu2:ay w ub (uf+i*2) (.int .i64 a.1):=hu2;have hu3:ay w ub (uf+i*2+1) (.int .i64 a.2):=hu3;obtain⟨hv2,hv3⟩:=hv2;have hv2:ay w vb (vf+i*2) (.int .i64 b.1):=hv2;have hv3:ay w vb (vf+i*2+1) (.int .i64 b.2):=hv3;have HF0:=hid (show ∀ w',aj wr w'->ay w' ub (uf+i*2) (.int .i64 a.1)/\ay w' ub (uf+i*2+1) (.int .i64 a.2)from fun w' hC=>⟨cell_below (HB.o.trans (hC.mono HB.o.size)) hu2,cell_below (HB.o.trans (hC.mono HB.o.size)) hu3⟩);have HF1:=hid (show ∀ w',aj wr w'->ay w' vb (vf+i*2) (.int .i64 b.1)/\ay w' vb (vf+i*2+1) (.int .i64 b.2)from fun w' hC=>⟨cell_below (HB.o.trans (hC.mono HB.o.size)) hv2,cell_below (HB.o.trans (hC.mono HB.o.size)) hv3⟩);have HA:=hid (And.intro ha hb);clear ha hb hu2 hv2 hu1 hv1 hu3 hv3;go_wp2_with fail;obtain⟨a1,a2⟩:=a;obtain⟨b1,b2⟩:=b;dsimp only at HF0 HF1;by_cases h1:a1=b1
    ·subst h1;by_cases h2:a2=b2
     ·subst h2;refine ah (by kernel_rfl) (by kernel_rfl) ?_
      repeat (refine BigFrame.wpQuiet_want (by rfl) (fun K hK=>?_)
              apply Exists.intro;refine⟨fun w' hC=>?_,hK _ ?_⟩
              . obtain⟨f0',g0'⟩:=HF0.o w' hC
                obtain⟨f1',g1'⟩:=HF1.o w' hC;unfold Oper.quietAt;go_simp
                first
                  | with_reducible rfl
                  | done
              clear hK K;try simp only[Act.put,bP,bQ,bK])
      refine wpQuiet_nil ?_;intro w6 hb6;have HB6:=fJ HB hb6;clear hb6;have HS6:=hid (jM HS.o HA.o.1 HA.o.2 rfl);clear HF0 HF1;go_wp2_with fail;refine⟨⟨i+1,by omega,rfl,HB6,HS6⟩,?_⟩;show N-((i:Int)+1).toNat<N-((i:Int)).toNat;omega
     ·have HAB:¬ (a1,a2)=(a1,b2):=fun h=>h2 (congrArg Prod.snd h);refine ah (by kernel_rfl) (by kernel_rfl) ?_
      repeat (refine BigFrame.wpQuiet_want (by rfl) (fun K hK=>?_)
              apply Exists.intro;refine⟨fun w' hC=>?_,hK _ ?_⟩
              . obtain⟨f0',g0'⟩:=HF0.o w' hC
                obtain⟨f1',g1'⟩:=HF1.o w' hC;unfold Oper.quietAt;go_simp
                first
                  | with_reducible rfl
                  | done
              clear hK K;try simp only[Act.put,bP,bQ,bK])
      refine wpQuiet_nil ?_;intro w6 hb6;have HB6:=fJ HB hb6;clear hb6;have HNE:=hid (qQ HA.o.1 HA.o.2 HAB);go_wp2_with fail;go_ret;refine⟨?_,HB6.o⟩;rw[dA HNE.o];rfl
    ·have HAB:¬ (a1,a2)=(b1,b2):=fun h=>h1 (congrArg Prod.fst h);refine ah (by kernel_rfl) (by kernel_rfl) ?_
     repeat (refine BigFrame.wpQuiet_want (by rfl) (fun K hK=>?_)
             apply Exists.intro;refine⟨fun w' hC=>?_,hK _ ?_⟩
             . obtain⟨f0',g0'⟩:=HF0.o w' hC
               obtain⟨f1',g1'⟩:=HF1.o w' hC;unfold Oper.quietAt;go_simp
               first
                 | with_reducible rfl
                 | done
             clear hK K;try simp only[Act.put,bP,bQ,bK])
     refine wpQuiet_nil ?_;intro w6 hb6;have HB6:=fJ HB hb6;clear hb6;have HNE:=hid (qQ HA.o.1 HA.o.2 HAB);go_wp2_with fail;go_ret;refine⟨?_,HB6.o⟩;rw[dA HNE.o];rfl
   ·have j1:¬ (i:Int)<(N:Int):=(by omega);have HEQ:=hid (show l=m from by
     have h1:=HS.o;rw[List.take_of_length_le (by rw[HN.o.1];omega),List.take_of_length_le (by rw[HN.o.2];omega)]at h1;exact h1)
    go_wp2_with fail;go_ret;refine⟨?_,HB.o⟩;rw[eP HEQ.o];rfl
 ·have HNE:=hid (show ¬ l=m from fun h=>hNM (by rw[<-HN.o.1,<-HN.o.2,h]));have t0:¬ (N:Int)=(M:Int):=by omega
  clear hux hvx;go_enter Tryz.func118,Tryz.ntmps118;go_wp2_with fail;go_ret;refine⟨?_,eH _ _⟩;rw[dA HNE.o];rfl
theorem Fb {w:World}{u v:Value}{l m:List (List It)}(hu:bz w u l.length (fun i x=>aS w x (l.getD i [])))(hv:bz w v m.length (fun i x=>aS w x (m.getD i []))) :
  Calls Tryz.prog 117 #[u,v,.func (.func 118) #[] #[]] w fun e w'=>e=.returned (.bool (decide (l=m)))/\aj w w':=by
 obtain⟨uo,uc,rfl,hul,hux⟩:=hu;obtain⟨vo,vc,rfl,hvl,hvx⟩:=hv;obtain⟨N,hN⟩:=ai (l.length);obtain⟨M,hM⟩:=ai (m.length);rw[hN]at hul hux ⊢;rw[hM]at hvl hvx ⊢;have HN:=hid (And.intro hN hM);clear hN hM;by_cases hNM:N=M
 ·subst hNM;have HUX:=hid hux;have HVX:=hid hvx;have HS:=hid (show l.take 0=m.take 0 from rfl);have HB:=hid (eH w.heap.size w);clear hux hvx;go_enter Tryz.func117,Tryz.ntmps117;go_wp2_with fail
  go_loopw [7,8,9,17] (fun t7 t8 t9 t17 wr=>∃ (i:Nat),i<=N/\t17=.int .i64 (i:Int)/\Hid (aj w wr)/\Hid (l.take i=m.take i)) (fun _ _ _ t17 _=>N-(RowKit.intOf t17).toNat)
  case atStart=>exact⟨0,Nat.zero_le _,rfl,HB,HS⟩
  case round =>
   clear HB HS;obtain⟨i,hiN,rfl,HB,HS⟩:=hrel;by_cases hlt:i<N
   ·have j1:(i:Int)<(N:Int):=(by omega);have j0:(0:Int)<=(i:Int):=(by omega);obtain⟨ub,uf,rfl,hu1⟩:=HUX.o (by omega);obtain⟨vb,vf,rfl,hv1⟩:=HVX.o (by omega);obtain⟨x,hx,hxi⟩:=hu1 i hlt;obtain⟨y,hy,hyi⟩:=hv1 i hlt;obtain⟨a,ha⟩:∃ a,l[i]?=some a:=⟨_,dH (by rw[HN.o.1];exact hlt)⟩;obtain⟨b,hb⟩:∃ b,m[i]?=some b:=⟨_,dH (by rw[HN.o.2];exact hlt)⟩;rw[dL,ha]at hxi;rw[dL,hb]at hyi;have f0:ay wr ub (uf+i) x:=cell_below HB.o hx;have f1:ay wr vb (vf+i) y:=cell_below HB.o hy;have KE:=hid (DV (w:=wr) (u:=x) (v:=y) (l:=a) (m:=b) (hxi.below HB.o) (hyi.below HB.o));have HA:=hid (And.intro ha hb);clear ha hb hx hy hu1 hv1 hxi hyi;go_wp2_with fail;refine KE.o.mono ?_;rintro e w6 ⟨rfl,hb6⟩;have HB6:=fJ HB hb6;clear hb6 KE;by_cases hab:a=b
    ·have HS6:=hid (jM HS.o HA.o.1 HA.o.2 hab);rw[eP hab];go_wp2_with fail;refine⟨⟨i+1,by omega,rfl,HB6,HS6⟩,?_⟩;show N-((i:Int)+1).toNat<N-((i:Int)).toNat;omega
    ·have HNE:=hid (qQ HA.o.1 HA.o.2 hab);rw[dA hab];clear hab;go_wp2_with fail;go_ret;refine⟨?_,HB6.o⟩;rw[dA HNE.o];rfl
   ·have j1:¬ (i:Int)<(N:Int):=(by omega);have HEQ:=hid (show l=m from by
     have h1:=HS.o;rw[List.take_of_length_le (by rw[HN.o.1];omega),List.take_of_length_le (by rw[HN.o.2];omega)]at h1;exact h1)
    go_wp2_with fail;go_ret;refine⟨?_,HB.o⟩;rw[eP HEQ.o];rfl
 ·have HNE:=hid (show ¬ l=m from fun h=>hNM (by rw[<-HN.o.1,<-HN.o.2,h]));have t0:¬ (N:Int)=(M:Int):=by omega
  clear hux hvx;go_enter Tryz.func117,Tryz.ntmps117;go_wp2_with fail;go_ret;refine⟨?_,eH _ _⟩;rw[dA HNE.o];rfl
theorem Fa {w:World}{u v:Value}{l m:List Nat}(hu:yK w u l)(hv:yK w v m) :
  Calls Tryz.prog 119 #[u,v] w fun e w'=>e=.returned (.bool (decide (l=m)))/\aj w w':=by
 obtain⟨uo,uc,rfl,hul,hux⟩:=hu;obtain⟨vo,vc,rfl,hvl,hvx⟩:=hv;obtain⟨N,hN⟩:=ai (l.length);obtain⟨M,hM⟩:=ai (m.length);rw[hN]at hul hux ⊢;rw[hM]at hvl hvx ⊢;have HN:=hid (And.intro hN hM);clear hN hM;by_cases hNM:N=M
 ·subst hNM;have HUX:=hid hux;have HVX:=hid hvx;have HS:=hid (show l.take 0=m.take 0 from rfl);have HB:=hid (eH w.heap.size w);clear hux hvx;go_enter Tryz.func119,Tryz.ntmps119;go_wp2_with fail
  go_loopw [5,13] (fun t5 t13 wr=>∃ (i:Nat),i<=N/\t13=.int .i64 (i:Int)/\Hid (aj w wr)/\Hid (l.take i=m.take i)) (fun _ t13 _=>N-(RowKit.intOf t13).toNat)
  case atStart=>exact⟨0,Nat.zero_le _,rfl,HB,HS⟩
  case round =>
   clear HB HS;obtain⟨i,hiN,rfl,HB,HS⟩:=hrel;by_cases hlt:i<N
   ·have j1:(i:Int)<(N:Int):=(by omega);have j0:(0:Int)<=(i:Int):=(by omega);obtain⟨ub,uf,rfl,hu1⟩:=HUX.o (by omega);obtain⟨vb,vf,rfl,hv1⟩:=HVX.o (by omega);have hu2:=hu1 i hlt;have hv2:=hv1 i hlt;obtain⟨a,ha⟩:∃ a,l[i]?=some a:=⟨_,dH (by rw[HN.o.1];exact hlt)⟩;obtain⟨b,hb⟩:∃ b,m[i]?=some b:=⟨_,dH (by rw[HN.o.2];exact hlt)⟩;rw[dL,ha]at hu2;rw[dL,hb]at hv2;have hu2:ay w ub (uf+i) (aJ.u64 a):=hu2;have hv2:ay w vb (vf+i) (aJ.u64 b):=hv2;have HF0:=hid (show ∀ w',aj wr w'->ay w' ub (uf+i) (aJ.u64 a)from fun w' hC=>cell_below (HB.o.trans (hC.mono HB.o.size)) hu2);have HF1:=hid (show ∀ w',aj wr w'->ay w' vb (vf+i) (aJ.u64 b)from fun w' hC=>cell_below (HB.o.trans (hC.mono HB.o.size)) hv2);have HA:=hid (And.intro ha hb);clear ha hb hu2 hv2 hu1 hv1;go_wp2_with fail;refine ah (by kernel_rfl) (by kernel_rfl) ?_
    repeat (refine BigFrame.wpQuiet_want (by rfl) (fun K hK=>?_)
            apply Exists.intro;refine⟨fun w' hC=>?_,hK _ ?_⟩
            . have f0':=HF0.o w' hC
              have f1':=HF1.o w' hC;unfold Oper.quietAt;go_simp
              first
                | with_reducible rfl
                | done
            clear hK K;try simp only[Act.put,bP,bQ,bK])
    refine wpQuiet_nil ?_;intro w6 hb6;have HB6:=fJ HB hb6;clear hb6;by_cases hab:a=b
    ·have HS6:=hid (jM HS.o HA.o.1 HA.o.2 hab);subst hab;clear HF0 HF1;go_wp2_with fail;refine⟨⟨i+1,by omega,rfl,HB6,HS6⟩,?_⟩;show N-((i:Int)+1).toNat<N-((i:Int)).toNat;omega
    ·have HNE:=hid (qQ HA.o.1 HA.o.2 hab);go_wp2_with fail;go_ret;refine⟨?_,HB6.o⟩;rw[dA HNE.o];rfl
   ·have j1:¬ (i:Int)<(N:Int):=(by omega);have HEQ:=hid (show l=m from by
     have h1:=HS.o;rw[List.take_of_length_le (by rw[HN.o.1];omega),List.take_of_length_le (by rw[HN.o.2];omega)]at h1;exact h1)
    go_wp2_with fail;go_ret;refine⟨?_,HB.o⟩;rw[eP HEQ.o];rfl
 ·have HNE:=hid (show ¬ l=m from fun h=>hNM (by rw[<-HN.o.1,<-HN.o.2,h]));have t0:¬ (N:Int)=(M:Int):=by omega
  clear hux hvx;go_enter Tryz.func119,Tryz.ntmps119;go_wp2_with fail;go_ret;refine⟨?_,eH _ _⟩;rw[dA HNE.o];rfl
theorem Ia {w:World}{u v:Value}{n m:Nat}{D:Nat->Nat->List It}{Nx:Nat->List Int}(ha:TabAt w u n m D Nx)(hb:TabAt w v n m D Nx) :
  Calls Tryz.prog 81 #[u,v] w fun e w'=>e=.returned (.bool true)/\aj w w':=by
 obtain⟨du,nu,mu,rfl,a1,a2,a3⟩:=ha;obtain⟨dv,nv,mv,rfl,b1,b2,b3⟩:=hb;have hg:∀ (α:Type) (f:Nat->α) (d:α) i,i<n->((List.range n).map f).getD i d=f i:=fun α f d i hi=>by
  rw[dL,List.getElem?_map,List.getElem?_range hi];rfl
 have hl:∀ (α:Type) (f:Nat->α),((List.range n).map f).length=n:=fun α f=>by simp
 obtain⟨W1,e1⟩:=ai (w.alloc (.cells #[du,nu,mu] 96));have h1:aj w W1:=dM e1;have n1:W1.heap[w.heap.size]?=some (.cells #[du,nu,mu] 96 (0,0)):=dO e1;obtain⟨W2,e2⟩:=ai (W1.alloc (.cells #[dv,nv,mv] 96));have h2:aj W1 W2:=dM e2;have n2:W2.heap[W1.heap.size]?=some (.cells #[dv,nv,mv] 96 (0,0)):=dO e2;have n1':=(h2.block _ (dZ n1)).trans n1;have hb12:aj w W2:=h1.trans (h2.mono h1.size);have HB2:=hid hb12;have HC:=hid (show ∀ w',aj W2 w'->(ay w' w.heap.size 0 du/\ay w' w.heap.size 1 nu/\ay w' w.heap.size 2 mu)/\(ay w' W1.heap.size 0 dv/\ay w' W1.heap.size 1 nv/\ay w' W1.heap.size 2 mv)from fun w' hC =>
  ⟨⟨cell_below hC (ak n1' 0),cell_below hC (ak n1' 1),cell_below hC (ak n1' 2)⟩,⟨cell_below hC (ak n2 0),cell_below hC (ak n2 1),cell_below hC (ak n2 2)⟩⟩)
 have HR:=hid (show ∀ w',aj w w'->Calls Tryz.prog 117 #[du,dv,.func (.func 118) #[] #[]] w' fun e w''=>e=.returned (.bool true)/\aj w' w'' from fun w' hC=>by
  have:=Fb (w:=w') (u:=du) (v:=dv) (l:=(List.range n).map fun i=>eF (D i) m m) (m:=(List.range n).map fun i=>eF (D i) m m)
   (by rw[hl];exact rH (a1.below hC fun i u hu=>hu.below hC) fun i u hi hu=>by rw[hg _ _ _ i hi];exact hu)
   (by rw[hl];exact rH (b1.below hC fun i u hu=>hu.below hC) fun i u hi hu=>by rw[hg _ _ _ i hi];exact hu)
  rw[eP rfl]at this;exact this)
 have HN:=hid (show ∀ w',aj w w'->Calls Tryz.prog 109 #[nu,nv,.func (.func 110) #[] #[]] w' fun e w''=>e=.returned (.bool true)/\aj w' w'' from fun w' hC=>by
  have:=DU (w:=w') (u:=nu) (v:=nv) (l:=(List.range n).map Nx) (m:=(List.range n).map Nx)
   (by rw[hl];exact rH (a2.below hC fun i u hu=>hu.mono hC) fun i u hi hu=>by rw[hg _ _ _ i hi];exact hu)
   (by rw[hl];exact rH (b2.below hC fun i u hu=>hu.mono hC) fun i u hi hu=>by rw[hg _ _ _ i hi];exact hu)
  rw[eP rfl]at this;exact this)
 have HM:=hid (show ∀ w',aj w w'->Calls Tryz.prog 119 #[mu,mv] w' fun e w''=>e=.returned (.bool true)/\aj w' w'' from fun w' hC=>by
  have:=Fa (w:=w') (u:=mu) (v:=mv) (eU.mono a3 fun _ _ _ hc=>cell_below hC hc) (eU.mono b3 fun _ _ _ hc=>cell_below hC hc);rw[eP rfl]at this;exact this)
 obtain⟨⟨c0,c1,c2⟩,⟨d0,d1,d2⟩⟩:=HC.o W2 (eH _ _);have K1:=hid (HR.o W2 hb12);clear n1 n2 h1 h2 n1' a1 a2 a3 b1 b2 b3 hb12;go_enter Tryz.func81,Tryz.ntmps81;go_wp2_with fail;refine K1.o.mono ?_;rintro e w6 ⟨rfl,hb6⟩;have HB6:=fJ HB2 hb6;have HX6:=hid hb6;clear c0 c1 c2 d0 d1 d2 K1 hb6 e1 e2;obtain⟨⟨c0,c1,c2⟩,⟨d0,d1,d2⟩⟩:=HC.o w6 HX6.o;have K2:=hid (HN.o w6 HB6.o);go_wp2_with fail;refine K2.o.mono ?_;rintro e w7 ⟨rfl,hb7⟩;have HB7:=fJ HB6 hb7;have HX7:=fJ HX6 hb7;clear c0 c1 c2 d0 d1 d2 K2 hb7;obtain⟨⟨c0,c1,c2⟩,⟨d0,d1,d2⟩⟩:=HC.o w7 HX7.o;have K3:=hid (HM.o w7 HB7.o);go_wp2_with fail;refine K3.o.mono ?_;rintro e w8 ⟨rfl,hb8⟩;have HB8:=fJ HB7 hb8;clear c0 c1 c2 d0 d1 d2 K3 hb8;go_wp2_with fail;go_ret;exact⟨rfl,HB8.o⟩
open aO (It ag aN aP ax aY bg)
open aJ (top E0 F0)
open aJ.cZ (Pl dm dJ places bi)
namespace LR
inductive iY (M:lK) (inT:Int->Prop):Nat->List Nat->List Int->Bool->List Int->Prop
 | bad (σ:List Nat) (t:Int) (w:List Int) (h:¬ inT t):iY M inT 0 σ (t::w) false (t::w)
 | acc (i:Nat) (σ:List Nat) (w:List Int) (hi:∀ t∈w.head?,inT t) (h:M.act i (hd w)=.acc):iY M inT 0 (i::σ) w true w
 | wrong (i:Nat) (σ:List Nat) (w:List Int) (hi:∀ t∈w.head?,inT t) (h:M.act i (hd w)=.wrong):iY M inT 0 (i::σ) w false w
 | shift (k i j:Nat) (σ:List Nat) (t:Int) (w:List Int) (b:Bool) (r:List Int) (hi:inT t) (h:M.act i t=.shift j) (hr:iY M inT k (j::i::σ) w b r):iY M inT (k+1) (i::σ) (t::w) b r
 | red (k:Nat) (σ τ:List Nat) (w:List Int) (b:Bool) (r:List Int) (hi:∀ t∈w.head?,inT t) (h:LR.red M (hd w) σ=some τ) (hr:iY M inT k τ w b r):iY M inT (k+1) σ w b r
variable {M:lK}{inT:Int->Prop}
theorem pG.count {σ:List Nat}{w:List Int}{b:Bool}{r:List Int}(h:pG M inT σ w b r):∃ k,iY M inT k σ w b r:=by
 induction h with
 | bad σ t w h=>exact⟨0,.bad σ t w h⟩
 | acc i σ w hi h=>exact⟨0,.acc i σ w hi h⟩
 | wrong i σ w hi h=>exact⟨0,.wrong i σ w hi h⟩
 | shift i j σ t w b r hi h _ ih=>obtain⟨k,hk⟩:=ih;exact⟨k+1,.shift k i j σ t w b r hi h hk⟩
 | red σ τ w b r hi h _ ih=>obtain⟨k,hk⟩:=ih;exact⟨k+1,.red k σ τ w b r hi h hk⟩
theorem iY.at_bad {k:Nat}{σ:List Nat}{t:Int}{w:List Int}{b:Bool}{r:List Int}(h:iY M inT k σ (t::w) b r)(ht:¬ inT t):b=false/\r=t::w:=by
 cases h with
 | bad=>exact⟨rfl,rfl⟩
 | acc i σ _ hi=>exact absurd (hi t rfl) ht
 | wrong i σ _ hi=>exact absurd (hi t rfl) ht
 | shift k i j σ t w b r hi=>exact absurd hi ht
 | red k σ τ w b r hi=>exact absurd (hi t rfl) ht
theorem iY.LV {k i:Nat}{σ:List Nat}{w:List Int}{b:Bool}{r:List Int}(h:iY M inT k (i::σ) w b r)(hi:∀ t∈w.head?,inT t)(ha:M.act i (hd w)=.acc):b=true/\r=w:=by
 cases h with
 | bad _ t w h'=>exact absurd (hi t rfl) h'
 | acc=>exact⟨rfl,rfl⟩
 | wrong _ _ _ _ h'=>rw[ha]at h';cases h'
 | shift _ _ j _ t w b r _ h'=>rw[show hd (t::w)=t from rfl]at ha;rw[ha]at h';cases h'
 | red _ _ τ w b r _ h'=>obtain⟨p,e⟩:=kY h';rw[ha]at e;cases e
theorem iY.Ea {k i:Nat}{σ:List Nat}{w:List Int}{b:Bool}{r:List Int}(h:iY M inT k (i::σ) w b r)(hi:∀ t∈w.head?,inT t)(ha:M.act i (hd w)=.wrong):b=false/\r=w:=by
 cases h with
 | bad _ t w h'=>exact absurd (hi t rfl) h'
 | acc _ _ _ _ h'=>rw[ha]at h';cases h'
 | wrong=>exact⟨rfl,rfl⟩
 | shift _ _ j _ t w b r _ h'=>rw[show hd (t::w)=t from rfl]at ha;rw[ha]at h';cases h'
 | red _ _ τ w b r _ h'=>obtain⟨p,e⟩:=kY h';rw[ha]at e;cases e
theorem iY.LQ {k i j:Nat}{σ:List Nat}{t:Int}{w:List Int}{b:Bool}{r:List Int}(h:iY M inT k (i::σ) (t::w) b r)(hi:inT t)(ha:M.act i t=.shift j):∃ k',k=k'+1/\iY M inT k' (j::i::σ) w b r:=by
 cases h with
 | bad _ t w h'=>exact absurd hi h'
 | acc _ _ _ _ h'=>rw[show hd (t::w)=t from rfl,ha]at h';cases h'
 | wrong _ _ _ _ h'=>rw[show hd (t::w)=t from rfl,ha]at h';cases h'
 | shift k' _ j' _ _ _ _ _ _ h' hr=>rw[ha]at h';cases h';exact⟨k',rfl,hr⟩
 | red _ _ τ w b r _ h'=>obtain⟨p,e⟩:=kY h';rw[show hd (t::w)=t from rfl,ha]at e;cases e
theorem iY.LU {k i:Nat}{p:Int}{σ:List Nat}{w:List Int}{b:Bool}{r:List Int}(h:iY M inT k (i::σ) w b r)(hi:∀ t∈w.head?,inT t)(ha:M.act i (hd w)=.red p):∃ k' τ,k=k'+1/\LR.red M (hd w) (i::σ)=some τ/\iY M inT k' τ w b r:=by
 cases h with
 | bad _ t w h'=>exact absurd (hi t rfl) h'
 | acc _ _ _ _ h'=>rw[ha]at h';cases h'
 | wrong _ _ _ _ h'=>rw[ha]at h';cases h'
 | shift _ _ j _ t w b r _ h'=>rw[show hd (t::w)=t from rfl]at ha;rw[ha]at h';cases h'
 | red k' _ τ w b r _ h' hr=>exact⟨k',τ,rfl,h',hr⟩
theorem Gp {t:Int}{τ τ':List Nat}(h:LR.red M t τ=some τ')(ρ:List Nat):LR.red M t (τ++ρ)=some (τ'++ρ):=by
 cases τ with
 | nil=>cases h
 | cons i τ =>
  obtain⟨p,ha⟩:=kY h;rw[List.cons_append];cases hd:(i::τ).drop (M.rt p).length with
  | nil=>simp only[LR.red,ha,hd]at h;cases h
  | cons j υ =>
   simp only[LR.red,ha,hd]at h;have h:=Option.some.inj h;subst h;have hlen:(M.rt p).length<=(i::τ).length:=by
    refine Classical.byContradiction fun hn=>?_;rw[List.drop_eq_nil_of_le (by omega)]at hd;cases hd
   have e:(i::(τ++ρ)).drop (M.rt p).length=j::(υ++ρ):=by
    rw[<-List.cons_append,List.drop_append_of_le_length hlen,hd];rfl
   simp only[LR.red,ha,e];rfl
theorem H6 {t:Int}{a b:List Nat}(h:Steps M t a b)(ρ:List Nat):Steps M t (a++ρ) (b++ρ):=by
 induction h with
 | refl=>exact .refl _
 | step σ τ υ h _ ih=>exact .step _ _ _ (Gp h ρ) ih
theorem JX {t:Int}{u:Nat}{κ:List Nat}(h:pF M t [u] (u::κ++[u])){ς:List Nat}(hf:Fin M t ς):∀ ρ,Steps M t ς (u::ρ)->False:=by
 have up:∀ ρ,∃ c,LR.red M t (u::ρ)=some c/\Steps M t c (u::(κ++[u]++ρ)):=fun ρ=>by
  obtain⟨c,h1,h2⟩:=h;exact⟨c++ρ,Gp h1 ρ,by have:=H6 h2 ρ;simpa using this⟩
 induction hf with
 | stop ς hs =>
  intro ρ hst;cases hst with
  | refl=>obtain⟨c,h1,_⟩:=up ρ;rw[hs]at h1;cases h1
  | step _ _ _ h1 _=>rw[hs]at h1;cases h1
 | go ς τ hs _ ih =>
  intro ρ hst;cases hst with
  | refl =>
   obtain⟨c,h1,h2⟩:=up ρ;rw[hs]at h1;cases h1;exact ih _ h2
  | step _ _ _ h1 h2 =>
   rw[hs]at h1;cases h1;exact ih _ h2
def lF (M:lK)(t:Int)(τ:List Nat):Prop:=∀ α x β y γ,τ=α++x::(β++y::γ)->pF M t [y] (x::β++[y])
theorem lF.one (t:Int)(x:Nat):lF M t [x]:=fun α a β y γ e=>by
 have:=congrArg List.length e;simp at this;omega
theorem lF.red {t:Int}{τ ρ σ':List Nat}{γ:List Int}(hM:Ok M)(h:lF M t τ)(hp:Path M (τ++ρ) γ)(h0:τ≠[])(hr:LR.red M t (τ++ρ)=some σ'):∃ τ' ρ',σ'=τ'++ρ'/\τ'≠[]/\lF M t τ'/\ρ'.length<=ρ.length:=by
 obtain⟨p,i,j,υ,k1,k2,k3,k4,k5,k6,k7,k8,k9,k10⟩:=lm hM hp hr;by_cases hlt:(M.rt p).length<τ.length
 ·rw[List.drop_append_of_le_length (by omega)]at k7;obtain⟨υ1,hd⟩:∃ υ1,τ.drop (M.rt p).length=j::υ1:=by
   cases hd:τ.drop (M.rt p).length with
   | nil=>have:=congrArg List.length hd;rw[List.length_drop]at this;simp at this;omega
   | cons a b=>rw[hd]at k7;injection k7 with e _;exact⟨b,by rw[e]⟩
  rw[hd]at k7;injection k7 with _ k7;refine⟨M.to j (M.srt p)::j::υ1,ρ,by rw[k10,<-k7];rfl,by simp,fun α x β y γ' e=>?_,bJ _⟩;have hτ:τ=τ.take (M.rt p).length++j::υ1:=by rw[<-hd,List.take_append_drop]
  cases α with
  | cons a α =>
   injection e with _ e;exact h (τ.take (M.rt p).length++α) x β y γ' (by have e:j::υ1=α++x::(β++y::γ'):=e;rw[List.append_assoc,<-e];exact hτ)
  | nil =>
   injection e with e1 e2;obtain⟨hi,τ0,hτ0⟩:∃ hi τ0,τ=hi::τ0:=by
    cases τ with
    | nil=>exact absurd rfl h0
    | cons a b=>exact⟨a,b,rfl⟩
   have hii:hi=i:=by rw[hτ0]at k1;exact Option.some.inj k1
   subst hii
   -- down to y
   have hrd:∀ θ:List Nat,θ=τ.take (M.rt p).length++(β++[y])->LR.red M t θ=some (x::β++[y]):=fun θ hθ=>by
    have hdr:θ.drop (M.rt p).length=β++[y]:=by
     rw[hθ,List.drop_left' (by rw[List.length_take,Nat.min_eq_left (by omega)])]
    have hhd:∃ r,θ=hi::r:=by
     cases hk:(M.rt p).length with
     | zero =>
      rw[hk,List.take_zero,List.nil_append]at hθ;rw[hk,List.take_zero,List.nil_append,e2]at hτ;cases β with
      | nil=>rw[hτ0]at hτ;injection hτ with e _;exact⟨[],by rw[hθ,e];rfl⟩
      | cons b β=>rw[hτ0]at hτ;injection hτ with e _;exact⟨β++[y],by rw[hθ,e];rfl⟩
     | succ k =>
      rw[hk,hτ0,List.take_succ_cons,List.cons_append]at hθ;exact⟨_,hθ⟩
    obtain⟨r,hr0⟩:=hhd;obtain⟨b,β',hb⟩:∃ b β',β++[y]=b::β':=by
     cases β with
     | nil=>exact⟨y,[],rfl⟩
     | cons b β=>exact⟨b,β++[y],rfl⟩
    have hbj:b=j:=by
     cases β with
     | nil=>injection hb with hb _;injection e2 with e2 _;rw[<-hb,e2]
     | cons c β=>injection hb with hb _;injection e2 with e2 _;rw[<-hb,e2]
    rw[hr0,hb]at hdr;rw[hr0];simp only[LR.red,k2,hdr];rw[List.cons_append,hb,hbj,e1]
   have hst:Steps M t [y] (τ.take (M.rt p).length++(β++[y])):=by
    cases hc:τ.take (M.rt p).length++β with
    | nil =>
     obtain⟨h1,h2⟩:=List.append_eq_nil_iff.1 hc;rw[h1,h2];exact .refl _
    | cons a c =>
     obtain⟨d,h1,h2⟩:=h [] a c y γ' (by rw[List.nil_append,hτ,e2,<-List.append_assoc,hc];rfl);rw[<-List.append_assoc,hc];exact .step _ _ _ h1 h2
   exact hst.then_ (hrd _ rfl)
 ·refine⟨[M.to j (M.srt p)],j::υ,by rw[k10];rfl,by simp,lF.one _ _,?_⟩;rw[<-k7,List.length_drop,List.length_append];omega
theorem lF.nodup {t:Int}(hM:Ok M):∀ {τ ρ:List Nat}{γ:List Int},lF M t τ->Path M (τ++ρ) γ->τ.Nodup
 | [],_,_,_,_=>List.nodup_nil
 | x::τ,ρ,γ,h,hp=>by
  have hp2:τ=[]\/∃ γ',Path M (τ++ρ) γ':=by
   cases τ with
   | nil=>exact .inl rfl
   | cons y τ =>
    right;generalize hz:x::(y::τ)++ρ=s at hp;cases hp with
    | base=>simp at hz
    | more i σ γ s h' hg =>
     injection hz with e1 e2;have e2:y::τ++ρ=i::σ:=e2;exact⟨γ,by rw[e2];exact h'⟩
  have hnd:τ.Nodup:=by
   rcases hp2 with rfl | ⟨γ',hp2⟩
   ·exact List.nodup_nil
   ·exact lF.nodup hM (fun α a β y γ e=>h (x::α) a β y γ (by rw[e];rfl)) hp2
  refine List.nodup_cons.2 ⟨fun hx=>?_,hnd⟩;obtain⟨β,δ,rfl⟩:=List.append_of_mem hx;have h1:=h [] x β x δ rfl;exact JX h1 (fin_all hM hp) _ (.refl _)
theorem rq:∀ (N:Nat)(V:List Nat),V.Nodup->(∀ v∈V,v<N)->V.length<=N
 | 0,V,_,h=>by
  cases V with
  | nil=>exact bJ _
  | cons v V=>have:=h v List.mem_cons_self;omega
 | N+1,V,hd,h=>by
  by_cases hm:N∈V
  ·have h1:=rq N (V.erase N) (hd.erase _) (fun v hv=>by
    have h2:=(hd.mem_erase_iff.1 hv);have h3:=h v h2.2;have h4:=h2.1;omega)
   rw[List.length_erase_of_mem hm]at h1;omega
  ·have h1:=rq N V hd (fun v hv=>by
    have h3:=h v hv;have h4:v≠N:=fun e=>hm (e▸hv);omega)
   omega
end LR
namespace wQ
section
variable {G:GD}{n:Nat}{A:Pl->Nat}
theorem yE {cnt:Nat->Nat->Nat}{i:Nat} : ∀ {m:Nat},dW cnt i m=[]->∀ k,k<m->cnt i k<=1
 | 0,_,k,hk=>absurd hk (Nat.not_lt_zero k)
 | m+1,h,k,hk=>by
  unfold dW at h;obtain⟨h1,h2⟩:=List.append_eq_nil_iff.1 h;by_cases e:k=m
  ·subst e;refine Classical.byContradiction fun hn=>?_;rw[if_pos (by omega)]at h2;cases h2
  ·exact yE h1 k (by omega)
theorem D7 {cnt:Nat->Nat->Nat}{m:Nat} : ∀ {n:Nat},jG cnt m n=[]->∀ i k,i<n->k<m->cnt i k<=1
 | 0,_,i,_,hi,_=>absurd hi (Nat.not_lt_zero i)
 | n+1,h,i,k,hi,hk=>by
  unfold jG at h;obtain⟨h1,h2⟩:=List.append_eq_nil_iff.1 h;by_cases e:i=n
  ·subst e;exact yE h2 k hk
  ·exact D7 h1 i k (by omega) hk
theorem yA (hV:aB G=true)(hO:aN G n)(hL:LA G n A){i:Nat}{t:Int}(hi:i<n)(ht:t=63\/0<=t/\t<(G.terms.length:Int)){x:It}(hx:(dS G n A i (jE G.terms.length t)).headD (0,0)=x) :
  (x=(0,0)/\(mG G n (dS G n A)).act i t=.wrong)\/(∃ q:Nat,x=(1,(q:Int))/\q<n/\0<=t/\t<(G.terms.length:Int)/\0<=(mG G n (dS G n A)).go i t/\q=(mG G n (dS G n A)).to i t/\(mG G n (dS G n A)).act i t=.shift q) \/
  (∃ p:Nat,x=(2,(p:Int))/\p<G.prods.length/\(mG G n (dS G n A)).act i t=.red (p:Int))\/(x=(3,0)/\(mG G n (dS G n A)).act i t=.acc):=by
 have hk:jE G.terms.length t<=G.terms.length:=by unfold jE;split<;>omega
 have hact:(mG G n (dS G n A)).act i t=(match (dS G n A i (jE G.terms.length t)).head? with
  | none=>.wrong
  | some x=>if x.1=1 then .shift x.2.toNat else if x.1=2 then .red x.2 else .acc):=by
  show BN (dS G n A) G.terms.length i t=_;unfold BN;rw[if_pos ht];rfl
 cases hd:dS G n A i (jE G.terms.length t)with
 | nil =>
  rw[hd]at hx hact;left;exact⟨hx.symm,hact⟩
 | cons y l =>
  rw[hd]at hx hact;have hxy:y=x:=hx;subst hxy;have hm:y∈dS G n A i (jE G.terms.length t):=by rw[hd];exact List.mem_cons_self
  rcases(l7 (D:=dS G n A) hV hO hi hk).1 hm with⟨h5,h6,rfl⟩ | ⟨p,h5,h6,rfl⟩
  ·right;left;have ht:0<=t/\t<(G.terms.length:Int):=ht.resolve_left fun e=>by subst e;unfold jE at h5;rw[if_pos rfl]at h5;omega
   have hcc:jE G.terms.length t=t.toNat:=by unfold jE;rw[if_neg];have:=(aJ.gm hV).1;omega
   rw[hcc,show((t.toNat:Nat):Int)=t by omega]at h6 hact ⊢;obtain⟨_,q,e1,e2,e3,_⟩:=yu hO h6;refine⟨q,by rw[e1],e3,ht.1,ht.2,h6,?_,?_⟩
   ·show q=(ng G (ag G n).nx (i:Int) t).toNat;rw[e1];rfl
   ·rw[hact,e1];rfl
  ·right;right;by_cases hp:p<0
   ·rw[if_pos hp]at hact ⊢;exact .inr ⟨rfl,hact⟩
   ·rw[if_neg hp]at hact ⊢;have:=jV h5;refine .inl ⟨p.toNat,?_,by omega,?_⟩
    ·rw[show((p.toNat:Nat):Int)=p by omega]
    ·rw[hact,show((p.toNat:Nat):Int)=p by omega];rfl
end
end wQ
end Go.Proofs.YticmnfmijdgmbaaGreatDoor
