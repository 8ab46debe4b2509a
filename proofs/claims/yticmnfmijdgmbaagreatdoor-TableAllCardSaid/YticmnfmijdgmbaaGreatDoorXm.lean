import Derived.Test.YticmnfmijdgmbaaGreatDoorXk
set_option linter.all false
set_option maxRecDepth 100000
set_option maxHeartbeats 8000000
namespace Go.Proofs.YticmnfmijdgmbaaGreatDoor
open Go Go.RowKit Go.Lib
open aO (It ag aN dn aP)
open aJ (u64 aZ top E0 F0 fM)
open aJ.cZ (Pl dm dJ places bi)
def AllP (G:GD)(w:World)(e:Ending)(w':World):Prop:=
 aj w w'/\((aB G=false/\e=.returned (.tuple #[.slice none 0 0,.int .i64 1]))\/(aB G=true/\∃ n,(dn G n/\e=.returned (.tuple #[.slice none 0 0,.int .i64 4])) \/
  (aN G n/\∃ v A,e=.returned (.tuple #[v,.int .i64 0])/\dm (dJ (bi G n (E0 G) (F0 G))) (places (bi G n (E0 G) (F0 G)) n) (0,(-1,0)) (aZ 63) A/\qO w' v n (bi G n (E0 G) (F0 G)).C A)))
theorem All_any {G:GD}{gv:Value}{w:World}{Bt:Nat}(h:fZ w gv G)(ht:Tab Bt w)(hBt:Bt<=w.heap.size):Calls Tryz.prog 17 #[gv] w (AllP G w):=by
 have HGr:=hid h;obtain⟨tv,ov,sv,pv,tf,rv,h⟩:=h;obtain⟨W1,B,hW1,hB,c0,c1,c2,c3,c4,hG,hb,hsz⟩:=gU h;have hgv:=h.eq;subst hgv hB;have e1:=hW1.symm;have HC:=hid (And.intro c0 (And.intro c1 (And.intro c2 (And.intro c3 c4))));have HB1:=hid hb;have KB:=hid (vT (HGr.o.below hb) (ht.on (hb.mono hBt)) (eX hBt hb.size));clear h hG hW1 hb ht;go_enter Tryz.func17,Tryz.ntmps17;go_wp2_with fail;refine KB.o.mono ?_;rintro e w2 ⟨hb2,hcase⟩;have HB2:=fJ HB1 hb2;have c0:=cell_below hb2 HC.o.1;have c1:=cell_below hb2 HC.o.2.1;have c2:=cell_below hb2 HC.o.2.2.1;have c3:=cell_below hb2 HC.o.2.2.2.1;have c4:=cell_below hb2 HC.o.2.2.2.2;obtain⟨W3,e3⟩:=ai (w2.alloc (.cells #[.slice none 0 0,.slice none 0 0] 55));have n3:W3.heap[w2.heap.size]?=some (.cells #[.slice none 0 0,.slice none 0 0] 55 (0,0)):=dO e3;clear KB e1;rcases hcase with⟨hV,rfl⟩ | ⟨hV,n,⟨hM,rfl⟩ | ⟨hO,av,rfl,hau⟩⟩
 ·have vn0:W3.heap[w2.heap.size]?=some (.cells #[.slice none 0 0,.slice none 0 0] 55 (0,0)):=n3;have vc0:ay W3 w2.heap.size 0 (.slice none 0 0):=ak vn0 0;have vf0:=bY vn0 0;obtain⟨u1,ve0⟩:=ai (W3.setCell ⟨w2.heap.size,0,none⟩ (.slice none 0 0));have vn1:u1.heap[w2.heap.size]?=some (.cells #[.slice none 0 0,.slice none 0 0] 55 (0,0)):=dK ve0 vn0;have vc1:ay u1 w2.heap.size 1 (.slice none 0 0):=ak vn1 1;have vf1:=bY vn1 1;obtain⟨u2,ve1⟩:=ai (u1.setCell ⟨w2.heap.size,1,none⟩ (.slice none 0 0));have vn2:u2.heap[w2.heap.size]?=some (.cells #[.slice none 0 0,.slice none 0 0] 55 (0,0)):=dK ve1 vn1;have hb3:aj w2 u2:=by
   rw[<-ve1,<-ve0,<-e3];exact((((eH _ _).alloc (bJ _) _).setCell (bJ _) _).setCell (bJ _) _)
  have HB3:=fJ HB2 hb3;unfold wu;clear hb2 hb3 n3 vn0 vn1 vn2;go_wp2_with fail;refine bodyPost_ret (results_tmp2 rfl _ _ _) rfl ?_;exact⟨HB3.o,.inl ⟨hV,rfl⟩⟩
 ·have vn0:W3.heap[w2.heap.size]?=some (.cells #[.slice none 0 0,.slice none 0 0] 55 (0,0)):=n3;have vc0:ay W3 w2.heap.size 0 (.slice none 0 0):=ak vn0 0;have vf0:=bY vn0 0;obtain⟨u1,ve0⟩:=ai (W3.setCell ⟨w2.heap.size,0,none⟩ (.slice none 0 0));have vn1:u1.heap[w2.heap.size]?=some (.cells #[.slice none 0 0,.slice none 0 0] 55 (0,0)):=dK ve0 vn0;have vc1:ay u1 w2.heap.size 1 (.slice none 0 0):=ak vn1 1;have vf1:=bY vn1 1;obtain⟨u2,ve1⟩:=ai (u1.setCell ⟨w2.heap.size,1,none⟩ (.slice none 0 0));have vn2:u2.heap[w2.heap.size]?=some (.cells #[.slice none 0 0,.slice none 0 0] 55 (0,0)):=dK ve1 vn1;have hb3:aj w2 u2:=by
   rw[<-ve1,<-ve0,<-e3];exact((((eH _ _).alloc (bJ _) _).setCell (bJ _) _).setCell (bJ _) _)
  have HB3:=fJ HB2 hb3;unfold wu;clear hb2 hb3 n3 vn0 vn1 vn2;go_wp2_with fail;refine bodyPost_ret (results_tmp2 rfl _ _ _) rfl ?_;exact⟨HB3.o,.inr ⟨hV,n,.inl ⟨hM,rfl⟩⟩⟩
 obtain⟨kv,nv,rfl,hk1,hk2⟩:=hau;obtain⟨ko,kl,kc,rfl⟩:∃ ko kl kc,kv=.slice ko kl kc:=by
  obtain⟨o,c,e,_⟩:=hk1.len;exact⟨_,_,_,e⟩
 obtain⟨no,nl,nc,rfl⟩:∃ no nl nc,nv=.slice no nl nc:=by
  obtain⟨o,c,e,_⟩:=hk2.len;exact⟨_,_,_,e⟩
 have vn0:W3.heap[w2.heap.size]?=some (.cells #[.slice none 0 0,.slice none 0 0] 55 (0,0)):=n3;have vc0:ay W3 w2.heap.size 0 (.slice none 0 0):=ak vn0 0;have vf0:=bY vn0 0;obtain⟨u1,ve0⟩:=ai (W3.setCell ⟨w2.heap.size,0,none⟩ (.slice ko kl kc));have vn1:u1.heap[w2.heap.size]?=some (.cells #[.slice ko kl kc,.slice none 0 0] 55 (0,0)):=dK ve0 vn0;have vc1:ay u1 w2.heap.size 1 (.slice none 0 0):=ak vn1 1;have vf1:=bY vn1 1;obtain⟨u2,ve1⟩:=ai (u1.setCell ⟨w2.heap.size,1,none⟩ (.slice no nl nc));have vn2:u2.heap[w2.heap.size]?=some (.cells #[.slice ko kl kc,.slice no nl nc] 55 (0,0)):=dK ve1 vn1;have hb3:aj w2 u2:=by
  rw[<-ve1,<-ve0,<-e3];exact((((eH _ _).alloc (bJ _) _).setCell (bJ _) _).setCell (bJ _) _)
 have HB3:=fJ HB2 hb3;have KR:=hid (JF (HGr.o.below HB3.o) (jY.below ⟨_,_,rfl,hk1,hk2⟩ hb3) hO hV);have c0:=cell_below hb3 c0;have c1:=cell_below hb3 c1;have c2:=cell_below hb3 c2;have c3:=cell_below hb3 c3;have c4:=cell_below hb3 c4;have k0:ay u2 w2.heap.size 0 (.slice ko kl kc):=ak vn2 0;have k1:ay u2 w2.heap.size 1 (.slice no nl nc):=ak vn2 1;have HO:=hid (And.intro hO hV);clear hO hV hk1 hk2 hb2 hb3 n3 vn0 vn1 vn2;go_wp2_with fail;refine KR.o.mono ?_;rintro e w9 ⟨hb9,v,A,rfl,hL,hK⟩;have HFIN:=hid (And.intro (HB3.o.trans (hb9.mono HB3.o.size)) (And.intro hL hK));clear hb9 hL hK KR;go_wp2_with fail;refine bodyPost_ret (results_tmp2 rfl _ _ _) rfl ?_;exact⟨HFIN.o.1,.inr ⟨HO.o.2,n,.inr ⟨HO.o.1,v,A,rfl,HFIN.o.2.1,HFIN.o.2.2⟩⟩⟩
open aO (It)
theorem jM {α:Type}{l m:List α}{i:Nat}{a b:α}(h:l.take i=m.take i)(ha:l[i]?=some a)(hb:m[i]?=some b)(e:a=b):l.take (i+1)=m.take (i+1):=by
 rw[List.take_add_one,List.take_add_one,h,ha,hb,e]
theorem qQ {α:Type}{l m:List α}{i:Nat}{a b:α}(ha:l[i]?=some a)(hb:m[i]?=some b)(e:¬ a=b):¬ l=m:=fun h=>by
 rw[h,hb]at ha;injection ha with ha;exact e ha.symm
theorem Fe {w:World}{u v:Value}{l m:List Int}(hu:dw w u l)(hv:dw w v m) :
  Calls Tryz.prog 110 #[u,v] w fun e w'=>e=.returned (.bool (decide (l=m)))/\aj w w':=by
 obtain⟨⟨uo,uc,rfl,hul,hux⟩,_⟩:=hu;obtain⟨⟨vo,vc,rfl,hvl,hvx⟩,_⟩:=hv;obtain⟨N,hN⟩:=ai (l.length);obtain⟨M,hM⟩:=ai (m.length);rw[hN]at hul hux ⊢;rw[hM]at hvl hvx ⊢;have HN:=hid (And.intro hN hM);clear hN hM;by_cases hNM:N=M
 ·subst hNM;have HUX:=hid hux;have HVX:=hid hvx;have HS:=hid (show l.take 0=m.take 0 from rfl);have HB:=hid (eH w.heap.size w);clear hux hvx;go_enter Tryz.func110,Tryz.ntmps110;go_wp2_with fail
  go_loopw [5,13] (fun t5 t13 wr=>∃ (i:Nat),i<=N/\t13=.int .i64 (i:Int)/\Hid (aj w wr)/\Hid (l.take i=m.take i)) (fun _ t13 _=>N-(RowKit.intOf t13).toNat)
  case atStart=>exact⟨0,Nat.zero_le _,rfl,HB,HS⟩
  case round =>
   clear HB HS;obtain⟨i,hiN,rfl,HB,HS⟩:=hrel;by_cases hlt:i<N
   ·have j1:(i:Int)<(N:Int):=(by omega);have j0:(0:Int)<=(i:Int):=(by omega);obtain⟨ub,uf,rfl,hu1⟩:=HUX.o (by omega);obtain⟨vb,vf,rfl,hv1⟩:=HVX.o (by omega);have hu2:=hu1 i hlt;have hv2:=hv1 i hlt;obtain⟨a,ha⟩:∃ a,l[i]?=some a:=⟨_,dH (by rw[HN.o.1];exact hlt)⟩;obtain⟨b,hb⟩:∃ b,m[i]?=some b:=⟨_,dH (by rw[HN.o.2];exact hlt)⟩;rw[dL,ha]at hu2;rw[dL,hb]at hv2;have hu2:ay w ub (uf+i) (.int .i64 a):=hu2;have hv2:ay w vb (vf+i) (.int .i64 b):=hv2;have HF0:=hid (show ∀ w',aj wr w'->ay w' ub (uf+i) (.int .i64 a)from fun w' hC=>cell_below (HB.o.trans (hC.mono HB.o.size)) hu2);have HF1:=hid (show ∀ w',aj wr w'->ay w' vb (vf+i) (.int .i64 b)from fun w' hC=>cell_below (HB.o.trans (hC.mono HB.o.size)) hv2);have HA:=hid (And.intro ha hb);clear ha hb hu2 hv2 hu1 hv1;go_wp2_with fail;refine ah (by kernel_rfl) (by kernel_rfl) ?_
    repeat (refine BigFrame.wpQuiet_want (by rfl) (fun K hK=>?_)
            apply Exists.intro;refine⟨fun w' hC=>?_,hK _ ?_⟩
            . have f0':=HF0.o w' hC
              have f1':=HF1.o w' hC;unfold Oper.quietAt;go_simp
              first
                | with_reducible rfl
                | done
            clear hK K;try simp only[Act.put,List.setIfInBounds_toArray,List.set_cons_zero,List.set_cons_succ])
    refine wpQuiet_nil ?_;intro w6 hb6;have HB6:=fJ HB hb6;clear hb6;by_cases hab:a=b
    ·have HS6:=hid (jM HS.o HA.o.1 HA.o.2 hab);subst hab;clear HF0 HF1;go_wp2_with fail;refine⟨⟨i+1,by omega,rfl,HB6,HS6⟩,?_⟩;show N-((i:Int)+1).toNat<N-((i:Int)).toNat;omega
    ·have HNE:=hid (qQ HA.o.1 HA.o.2 hab);go_wp2_with fail;go_ret;refine⟨?_,HB6.o⟩;rw[dA HNE.o];rfl
   ·have j1:¬ (i:Int)<(N:Int):=(by omega);have HEQ:=hid (show l=m from by
     have h1:=HS.o;rw[List.take_of_length_le (by rw[HN.o.1];omega),List.take_of_length_le (by rw[HN.o.2];omega)]at h1;exact h1)
    go_wp2_with fail;go_ret;refine⟨?_,HB.o⟩;rw[eP HEQ.o];rfl
 ·have HNE:=hid (show ¬ l=m from fun h=>hNM (by rw[<-HN.o.1,<-HN.o.2,h]));have t0:¬ (N:Int)=(M:Int):=by omega
  clear hux hvx;go_enter Tryz.func110,Tryz.ntmps110;go_wp2_with fail;go_ret;refine⟨?_,eH _ _⟩;rw[dA HNE.o];rfl
theorem DU {w:World}{u v:Value}{l m:List (List Int)}(hu:bz w u l.length (fun i x=>dw w x (l.getD i [])))(hv:bz w v m.length (fun i x=>dw w x (m.getD i []))) :
  Calls Tryz.prog 109 #[u,v,.func (.func 110) #[] #[]] w fun e w'=>e=.returned (.bool (decide (l=m)))/\aj w w':=by
 obtain⟨uo,uc,rfl,hul,hux⟩:=hu;obtain⟨vo,vc,rfl,hvl,hvx⟩:=hv;obtain⟨N,hN⟩:=ai (l.length);obtain⟨M,hM⟩:=ai (m.length);rw[hN]at hul hux ⊢;rw[hM]at hvl hvx ⊢;have HN:=hid (And.intro hN hM);clear hN hM;by_cases hNM:N=M
 ·subst hNM;have HUX:=hid hux;have HVX:=hid hvx;have HS:=hid (show l.take 0=m.take 0 from rfl);have HB:=hid (eH w.heap.size w);clear hux hvx;go_enter Tryz.func109,Tryz.ntmps109;go_wp2_with fail
  go_loopw [7,8,9,17] (fun t7 t8 t9 t17 wr=>∃ (i:Nat),i<=N/\t17=.int .i64 (i:Int)/\Hid (aj w wr)/\Hid (l.take i=m.take i)) (fun _ _ _ t17 _=>N-(RowKit.intOf t17).toNat)
  case atStart=>exact⟨0,Nat.zero_le _,rfl,HB,HS⟩
  case round =>
   clear HB HS;obtain⟨i,hiN,rfl,HB,HS⟩:=hrel;by_cases hlt:i<N
   ·have j1:(i:Int)<(N:Int):=(by omega);have j0:(0:Int)<=(i:Int):=(by omega);obtain⟨ub,uf,rfl,hu1⟩:=HUX.o (by omega);obtain⟨vb,vf,rfl,hv1⟩:=HVX.o (by omega);obtain⟨x,hx,hxi⟩:=hu1 i hlt;obtain⟨y,hy,hyi⟩:=hv1 i hlt;obtain⟨a,ha⟩:∃ a,l[i]?=some a:=⟨_,dH (by rw[HN.o.1];exact hlt)⟩;obtain⟨b,hb⟩:∃ b,m[i]?=some b:=⟨_,dH (by rw[HN.o.2];exact hlt)⟩;rw[dL,ha]at hxi;rw[dL,hb]at hyi;have f0:ay wr ub (uf+i) x:=cell_below HB.o hx;have f1:ay wr vb (vf+i) y:=cell_below HB.o hy;have KE:=hid (Fe (w:=wr) (u:=x) (v:=y) (l:=a) (m:=b) (hxi.mono HB.o) (hyi.mono HB.o));have HA:=hid (And.intro ha hb);clear ha hb hx hy hu1 hv1 hxi hyi;go_wp2_with fail;refine KE.o.mono ?_;rintro e w6 ⟨rfl,hb6⟩;have HB6:=fJ HB hb6;clear hb6 KE;by_cases hab:a=b
    ·have HS6:=hid (jM HS.o HA.o.1 HA.o.2 hab);rw[eP hab];go_wp2_with fail;refine⟨⟨i+1,by omega,rfl,HB6,HS6⟩,?_⟩;show N-((i:Int)+1).toNat<N-((i:Int)).toNat;omega
    ·have HNE:=hid (qQ HA.o.1 HA.o.2 hab);rw[dA hab];clear hab;go_wp2_with fail;go_ret;refine⟨?_,HB6.o⟩;rw[dA HNE.o];rfl
   ·have j1:¬ (i:Int)<(N:Int):=(by omega);have HEQ:=hid (show l=m from by
     have h1:=HS.o;rw[List.take_of_length_le (by rw[HN.o.1];omega),List.take_of_length_le (by rw[HN.o.2];omega)]at h1;exact h1)
    go_wp2_with fail;go_ret;refine⟨?_,HB.o⟩;rw[eP HEQ.o];rfl
 ·have HNE:=hid (show ¬ l=m from fun h=>hNM (by rw[<-HN.o.1,<-HN.o.2,h]));have t0:¬ (N:Int)=(M:Int):=by omega
  clear hux hvx;go_enter Tryz.func109,Tryz.ntmps109;go_wp2_with fail;go_ret;refine⟨?_,eH _ _⟩;rw[dA HNE.o];rfl
theorem IE {w:World}{v:Value}{l:List It}(hv:aS w v l)(x:It)(hl:l.length<=1000000) :
  Calls Tryz.prog 95 #[v,mg x] w fun e w'=>∃ k:Int,e=.returned (.int .i64 k)/\aj w w'/\-1<=k/\k<=1000000/\(0<=k->x∈l)/\(x∈l->0<=k):=by
 obtain⟨x1,x2⟩:=x;obtain⟨W1,e1⟩:=ai (w.alloc (.cells #[.int .i64 x1,.int .i64 x2] 60));have n1:W1.heap[w.heap.size]?=some (.cells #[.int .i64 x1,.int .i64 x2] 60 (0,0)):=dO e1;have h1:aj w W1:=dM e1;have HBW:=hid h1;obtain⟨vo,vc,rfl,hvl,hvx⟩:=hv.below h1;obtain⟨N,hN⟩:=ai (l.length);rw[hN]at hvl hvx hl ⊢;have HN:=hid hN;have HVX:=hid hvx;have c0:ay W1 w.heap.size 0 (.int .i64 x1):=ak n1 0;have c1:ay W1 w.heap.size 1 (.int .i64 x2):=ak n1 1;have HX:=hid (And.intro c0 c1);have HS:=hid (show ¬ (x1,x2)∈l.take 0 from by simp);have HB:=hid (eH W1.heap.size W1);unfold mg;clear hN hvx h1 n1 hv c0 c1;go_enter Tryz.func95,Tryz.ntmps95;go_wp2_with fail
 go_loopw [5,8] (fun t5 t8 wr=>∃ (i:Nat),i<=N/\t8=.int .i64 (i:Int)/\Hid (aj W1 wr)/\Hid (¬ (x1,x2)∈l.take i)) (fun _ t8 _=>N-(RowKit.intOf t8).toNat)
 case atStart=>exact⟨0,Nat.zero_le _,rfl,HB,HS⟩
 case round =>
  clear HB HS e1;obtain⟨i,hiN,rfl,HB,HS⟩:=hrel;by_cases hlt:i<N
  ·have j1:(i:Int)<(N:Int):=by omega
   have j0:(0:Int)<=(i:Int):=by omega
   obtain⟨vb,vf,rfl,hv1⟩:=HVX.o (by omega);have hv2:=hv1 i hlt;obtain⟨a,ha⟩:∃ a,l[i]?=some a:=⟨_,dH (by rw[HN.o];exact hlt)⟩;obtain⟨a1,a2⟩:=a;rw[dL,ha]at hv2;obtain⟨hv2,hv3⟩:=hv2;have hv2:ay W1 vb (vf+i*2) (.int .i64 a1):=hv2;have hv3:ay W1 vb (vf+i*2+1) (.int .i64 a2):=hv3;have HF0:=hid (show ∀ w',aj wr w'->ay w' vb (vf+i*2) (.int .i64 a1)/\ay w' vb (vf+i*2+1) (.int .i64 a2)from fun w' hC=>⟨cell_below (HB.o.trans (hC.mono HB.o.size)) hv2,cell_below (HB.o.trans (hC.mono HB.o.size)) hv3⟩);have HF1:=hid (show ∀ w',aj wr w'->ay w' w.heap.size 0 (.int .i64 x1)/\ay w' w.heap.size 1 (.int .i64 x2)from fun w' hC=>⟨cell_below (HB.o.trans (hC.mono HB.o.size)) HX.o.1,cell_below (HB.o.trans (hC.mono HB.o.size)) HX.o.2⟩);have HA:=hid ha;clear ha hv2 hv3 hv1;go_wp2_with fail;by_cases h1:x1=a1
   ·subst h1;by_cases h2:x2=a2
    ·subst h2;refine ah (by kernel_rfl) (by kernel_rfl) ?_
     repeat (refine BigFrame.wpQuiet_want (by rfl) (fun K hK=>?_)
             apply Exists.intro;refine⟨fun w' hC=>?_,hK _ ?_⟩
             . obtain⟨f0',g0'⟩:=HF0.o w' hC
               obtain⟨f1',g1'⟩:=HF1.o w' hC;unfold Oper.quietAt;go_simp
               first
                 | with_reducible rfl
                 | done
             clear hK K;try simp only[Act.put,bP,bQ,bK])
     refine wpQuiet_nil ?_;intro w6 hb6;have HB6:=fJ HB hb6;clear hb6;have HIN:=hid (List.mem_of_getElem? HA.o);clear HF0 HF1;go_wp2_with fail;go_ret;exact⟨(i:Int),rfl,HBW.o.trans (HB6.o.mono HBW.o.size),by omega,by omega,fun _=>HIN.o,fun _=>by omega⟩
    ·have HAB:¬ (x1,x2)=(x1,a2):=fun h=>h2 (congrArg Prod.snd h);refine ah (by kernel_rfl) (by kernel_rfl) ?_
     repeat (refine BigFrame.wpQuiet_want (by rfl) (fun K hK=>?_)
             apply Exists.intro;refine⟨fun w' hC=>?_,hK _ ?_⟩
             . obtain⟨f0',g0'⟩:=HF0.o w' hC
               obtain⟨f1',g1'⟩:=HF1.o w' hC;unfold Oper.quietAt;go_simp
               first
                 | with_reducible rfl
                 | done
             clear hK K;try simp only[Act.put,bP,bQ,bK])
     refine wpQuiet_nil ?_;intro w6 hb6;have HB6:=fJ HB hb6;clear hb6;clear HF0 HF1;go_wp2_with fail;refine⟨⟨i+1,by omega,rfl,HB6,hid fun h=>?_⟩,?_⟩
     ·rw[List.take_add_one,HA.o]at h;rcases List.mem_append.1 h with h | h
      ·exact HS.o h
      ·exact HAB (by simpa using h)
     ·show N-((i:Int)+1).toNat<N-((i:Int)).toNat;omega
   ·have HAB:¬ (x1,x2)=(a1,a2):=fun h=>h1 (congrArg Prod.fst h);refine ah (by kernel_rfl) (by kernel_rfl) ?_
    repeat (refine BigFrame.wpQuiet_want (by rfl) (fun K hK=>?_)
            apply Exists.intro;refine⟨fun w' hC=>?_,hK _ ?_⟩
            . obtain⟨f0',g0'⟩:=HF0.o w' hC
              obtain⟨f1',g1'⟩:=HF1.o w' hC;unfold Oper.quietAt;go_simp
              first
                | with_reducible rfl
                | done
            clear hK K;try simp only[Act.put,bP,bQ,bK])
    refine wpQuiet_nil ?_;intro w6 hb6;have HB6:=fJ HB hb6;clear hb6;clear HF0 HF1;go_wp2_with fail;refine⟨⟨i+1,by omega,rfl,HB6,hid fun h=>?_⟩,?_⟩
    ·rw[List.take_add_one,HA.o]at h;rcases List.mem_append.1 h with h | h
     ·exact HS.o h
     ·exact HAB (by simpa using h)
    ·show N-((i:Int)+1).toNat<N-((i:Int)).toNat;omega
  ·have j1:¬ (i:Int)<(N:Int):=by omega
   have HEQ:=hid (show ¬ (x1,x2)∈l from by
    have h1:=HS.o;rw[List.take_of_length_le (by rw[HN.o];omega)]at h1;exact h1)
   go_wp2_with fail;go_ret;exact⟨-1,rfl,HBW.o.trans (HB.o.mono HBW.o.size),by omega,by omega,fun h=>absurd h (by decide),fun h=>absurd h HEQ.o⟩
theorem uw {w:World}{v:Value}{l:List It}(hv:aS w v l)(x:It)(hl:l.length<=1000000) :
  Calls Tryz.prog 54 #[v,mg x] w fun e w'=>e=.returned (.bool (decide (x∈l)))/\aj w w':=by
 obtain⟨W1,e1⟩:=ai (w.alloc (.cells #[.int .i64 x.1,.int .i64 x.2] 60));have n1:W1.heap[w.heap.size]?=some (.cells #[.int .i64 x.1,.int .i64 x.2] 60 (0,0)):=dO e1;have h1:aj w W1:=dM e1;have HBW:=hid h1;have c0:ay W1 w.heap.size 0 (.int .i64 x.1):=ak n1 0;have c1:ay W1 w.heap.size 1 (.int .i64 x.2):=ak n1 1;have KI:=IE (hv.below h1) x hl;unfold mg at KI ⊢;have KI:=hid KI;clear n1 h1 hv;go_enter Tryz.func54,Tryz.ntmps54;go_wp2_with fail;refine KI.o.mono ?_;rintro e w6 ⟨k,rfl,hb6,hk1,hk2,hk3,hk4⟩;have HB6:=fJ HBW hb6;clear hb6 KI c0 c1 e1;by_cases hk:0<=k
 ·have HIN:=hid (hk3 hk);clear hk3 hk4;go_wp2_with fail;go_ret;refine⟨?_,HB6.o⟩;rw[eP HIN.o];rfl
 ·have HIN:=hid (show ¬ x∈l from fun h=>hk (hk4 h));clear hk3 hk4;go_wp2_with fail;go_ret;refine⟨?_,HB6.o⟩;rw[dA HIN.o];show Ending.returned (.bool (decide (0<=k)))=_;rw[dA (by omega)]
open aO (It ax)
theorem J7 {G:GD}{gv:Value}{w:World}(h:fZ w gv G)(p:Int)(hp0:-1<=p)(hp:p<(G.prods.length:Int)) :
  Calls Tryz.prog 55 #[gv,.int .i64 p] w fun e w'=>e=.returned (.int .i64 ((ax G p).length:Int))/\aj w w':=by
 obtain⟨tv,ov,sv,pv,tf,rv,h⟩:=h;obtain⟨W1,B,hW1,hB,c0,c1,c2,c3,c4,hG,hb,hsz⟩:=gU h;have hgv:=h.eq;subst hgv hB;have e1:=hW1.symm;have HB1:=hid hb;by_cases h0:p<0
 ·have t0:decide (p<0)=true:=eP h0;have hr:(ax G p).length=1:=by unfold aO.ax;rw[if_pos (by omega)];rfl
  rw[hr];clear h hG hb hW1;go_enter Tryz.func55,Tryz.ntmps55;go_wp2_with fail;go_ret;exact⟨rfl,HB1.o⟩
 ·have t0:decide (p<0)=false:=dA h0;obtain⟨j,rfl⟩:∃ j:Nat,p=(j:Int):=⟨p.toNat,by omega⟩;obtain⟨pa,pc,rfl,hpn,hpx⟩:=hG.prods;have hjl:j<G.prods.length:=by omega
  obtain⟨pb,po,rfl,hpq⟩:=hpx (by omega);obtain⟨p0,p1,p2,p3⟩:=hpq j hjl;obtain⟨⟨ra,rc,hre,hrn,_⟩,_⟩:=hG.rights j hjl;rw[hre]at p2;have hr:ax G (j:Int)=(G.prods.getD j default).rs:=by unfold aO.ax;rw[if_neg (by omega)];rfl
  rw[hr];obtain⟨rn,hrn2⟩:=ai ((G.prods.getD j default).rs.length);rw[hrn2]at p2 hrn ⊢;obtain⟨np,hnp⟩:=ai (G.prods.length);rw[hnp]at c3 hjl hp e1 ⊢;have j1:(j:Int)<(np:Int):=by omega
  have j0:(0:Int)<=(j:Int):=by omega
  clear h hG hb hW1 hpx hpq p0 p1 p3 hpn;go_enter Tryz.func55,Tryz.ntmps55;go_wp2_with fail;go_ret;exact⟨rfl,HB1.o⟩
end Go.Proofs.YticmnfmijdgmbaaGreatDoor
