import Derived.Test.YticmnfmijdgmbaaGreatDoorZm
import Derived.Test.YticmnfmijdgmbaaGreatDoorZb
set_option linter.all false
set_option maxRecDepth 100000
set_option maxHeartbeats 16000000
namespace Go.Proofs.YticmnfmijdgmbaaGreatDoor
open Go Go.RowKit Go.Lib
open aO (It ag aN dn aP)
open aJ (u64 aZ top E0 F0 fM)
open aJ.cZ (Pl dm dJ places bi)
open wQ
theorem KJ:(Tryz.prog.info? 87).map (fun i=>(i.zero,i.size,i.bytes))=some (some (.slice none 0 0),1,24):=by kernel_rfl
theorem info85:(Tryz.prog.info? 85).map (fun i=>(i.zero,i.size,i.bytes))=some (some (.slice none 0 0),1,24):=by kernel_rfl
theorem EM (G:GD)(l:List It)(us:List Nat)(h:l.length<=1000000):(gV G l us).length<=1000000:=by
 unfold gV;rw[List.length_map];exact eX (vH G l us _) h
theorem EL {G:GD}{l:List It}{us:List Nat}(h:∀ x∈us,x<18446744073709551616):∀ p∈gV G l us,p.2<18446744073709551616:=fun p hp=>by
 unfold gV at hp;obtain⟨q,_,rfl⟩:=List.mem_map.1 hp;show us.getD _ 0<_;rw[dL];cases hq:us[GG (q,((aO.ax G q).length:Int)) l]? with
 | none=>decide
 | some x=>exact h x (List.mem_of_getElem? hq)
theorem pick5:∀ a,a<5->∀ b,b<5->([0,1,3,6,2]:List Nat).getD a 0=([0,1,3,6,2]:List Nat).getD b 0->a=b:=by decide
theorem pick4:∀ a,a<4->∀ b,b<4->([0,1,3,2]:List Nat).getD a 0=([0,1,3,2]:List Nat).getD b 0->a=b:=by decide
theorem vV {B:Nat}{w:World}{R:List (Value×Nat×List Value)}{CV:List (Value×List Value)}{v:Value}{D:Nat->Nat->List It}{m n:Nat}(h2:(gI B 2 R).ok w)(h1:(gI B 1 (CV.map fun c=>(c.1,c.2.length,c.2))).ok w)(hq:aI w B 1 v n (CV.map (·.1)))(hn:CV.length=n)(hs:dQ D m R CV) :
  bz w v n (fun i u=>bz w u m (fun k u'=>aS w u' (D i k))):=by
 have e:(CV.map (·.1)).length=n:=by rw[List.length_map,hn]
 rw[<-e]at hq ⊢;refine bz.nZ hq fun i u hu=>?_;rw[List.getElem?_map]at hu;cases hc:CV[i]? with
 | none=>rw[hc]at hu;cases hu
 | some c =>
  rw[hc]at hu;obtain rfl:c.1=u:=Option.some.inj hu;obtain⟨hl,ho⟩:=hs i c hc;rw[<-hl];refine bz.nZ (h1 (c.1,c.2.length,c.2) (List.mem_map.2 ⟨c,List.mem_of_getElem? hc,rfl⟩)) fun k u' hk=>?_;exact aI.items (h2 _ (ho k u' hk))
theorem Es {G:GD}{gv:Value}{w:World}(h:fZ w gv G):Calls Tryz.prog 58 #[gv] w fun e w'=>e=.returned (.bool (aB G))/\aj w w':=by
 obtain⟨_,_,_,_,_,_,h⟩:=h;exact mO h
def Hq (G:GD)(w:World)(e:Ending)(w':World):Prop:=
 aj w w'/\((aB G=false/\e=.returned (.tuple #[.slice none 0 0,.int .i64 1]))\/(aB G=true/\∃ n,(dn G n/\e=.returned (.tuple #[.slice none 0 0,.int .i64 4])) \/
  (aN G n/\∃ v A,e=.returned (.tuple #[v,.int .i64 0])/\dm (dJ (bi G n (E0 G) (F0 G))) (places (bi G n (E0 G) (F0 G)) n) (0,(-1,0)) (aZ 63) A /\
   bz w' v n (fun i u=>bz w' u (G.terms.length+1) (fun k u'=>aS w' u' (dE G (ag G n).nx (bi G n (E0 G) (F0 G)).C A i k))))))
theorem yQ {G:GD}{gv:Value}{w:World}{Bt:Nat}(h:fZ w gv G)(ht:Tab Bt w)(hBt:Bt<=w.heap.size):Calls Tryz.prog 35 #[gv] w (Hq G w):=by
 have HGr:=hid h;have HT:=hid ht;obtain⟨tv,ov,sv,pv,tf,rv,h⟩:=h;have hgv:=h.eq;subst hgv;obtain⟨gY,tc,rfl,htn,_⟩:=h.terms;obtain⟨T,hT⟩:=ai (G.terms.length);have HTL:=hid hT;rw[hT]at HGr ⊢;obtain⟨W1,e1⟩:=ai (w.alloc (.cells #[.slice gY T tc,ov,sv,pv,.int .i64 G.start] 27));have n1:W1.heap[w.heap.size]?=some (.cells #[.slice gY T tc,ov,sv,pv,.int .i64 G.start] 27 (0,0)):=dO e1;have f1:=bV (l:=[]) (az.empty w w.heap.size (bJ _)) e1 n1;have HB1:=hid f1.bel;have HF1:=hid f1;have HS:=hid (show ∀ w',aj W1 w'->ay w' w.heap.size 0 (.slice gY T tc)/\ay w' w.heap.size 1 ov/\ay w' w.heap.size 2 sv/\ay w' w.heap.size 3 pv/\ay w' w.heap.size 4 (.int .i64 G.start)from fun w' hC =>
  ⟨cell_below hC (ak n1 0),cell_below hC (ak n1 1),cell_below hC (ak n1 2),cell_below hC (ak n1 3),cell_below hC (ak n1 4)⟩)
 obtain⟨c0,c1,c2,c3,c4⟩:=HS.o W1 (eH _ _);have KV:=hid (Es (HGr.o.below HB1.o));clear h f1 n1 hT ht;go_enter Tryz.func35,Tryz.ntmps35;go_wp2_with fail;refine KV.o.mono ?_;rintro e w2 ⟨rfl,hb2⟩;clear c0 c1 c2 c3 c4 e1 KV;obtain⟨vb,hvb⟩:=ai (aB G);have HVB:=hid hvb;rw[hvb];have HB2:=fJ HB1 hb2;have HC2:=hid hb2;cases vb with
 | false =>
  clear hb2 hvb;go_wp2_with fail;refine bodyPost_ret (results_tmp2 rfl _ _ _) rfl ?_;exact⟨HB2.o,.inl ⟨HVB.o,rfl⟩⟩
 | true =>
  obtain⟨c0,c1,c2,c3,c4⟩:=HS.o w2 HC2.o;have KA:=hid (All_any (HGr.o.below HB2.o) (HT.o.on (HB2.o.mono hBt)) (eX hBt HB2.o.size));clear hb2 hvb;go_wp2_with fail;refine KA.o.mono ?_;rintro e w3 ⟨hb3,hcase⟩;have HB3:=fJ HB2 hb3;have HC3:=fJ HC2 hb3;clear c0 c1 c2 c3 c4 KA hb3;rcases hcase with⟨hV,rfl⟩ | ⟨hV,n,⟨hM,rfl⟩ | ⟨hO,v,A,rfl,hL,hK⟩⟩
  ·exact absurd (hV.symm.trans HVB.o) (by decide)
  ·go_wp2_with fail;refine bodyPost_ret (results_tmp2 rfl _ _ _) rfl ?_;exact⟨HB3.o,.inr ⟨hV,n,.inl ⟨hM,rfl⟩⟩⟩
  obtain⟨c0,c1,c2,c3,c4⟩:=HS.o w3 HC3.o;have KB:=hid (vT (HGr.o.below HB3.o) (HT.o.on (HB3.o.mono hBt)) (eX hBt HB3.o.size));have HLK:=hid (And.intro hL hK);have HO:=hid (And.intro hO hV);obtain⟨vo,vc,rfl⟩:∃ vo vc,v=.slice vo n vc:=by
   obtain⟨a,c,e,_⟩:=hK;exact⟨a,c,e⟩
  clear hL hK hO hV;go_wp2_with fail;refine KB.o.mono ?_;rintro e w4 ⟨hb4,hcase⟩;have HB4:=fJ HB3 hb4;have HC4:=fJ HC3 hb4;have HD4:=hid hb4;clear c0 c1 c2 c3 c4 KB hb4;rcases hcase with⟨hV,rfl⟩ | ⟨hV,m,⟨hM,rfl⟩ | ⟨hO,av,rfl,hau⟩⟩
  ·exact absurd (hV.symm.trans HVB.o) (by decide)
  ·exact(aO.fB.not HO.o.1 hM).elim
  obtain rfl:=aO.fB.one hO HO.o.1;obtain⟨kv,nv,rfl,hk1,hk2⟩:=hau;obtain⟨ko,kl,kc,rfl⟩:∃ ko kl kc,kv=.slice ko kl kc:=by
   obtain⟨o,c,e,_⟩:=hk1.len;exact⟨_,_,_,e⟩
  obtain⟨no,nl,nc,rfl⟩:∃ no nl nc,nv=.slice no nl nc:=by
   obtain⟨o,c,e,_⟩:=hk2.len;exact⟨_,_,_,e⟩
  have HAU:=hid (show jY w4 (.agg #[.slice ko kl kc,.slice no nl nc]) (ag G m).ker (ag G m).nx from⟨_,_,rfl,hk1,hk2⟩);have HF4:=hid (az.empty w4 w4.heap.size (bJ _));obtain⟨W5,e5⟩:=ai (w4.alloc (.cells #[.slice none 0 0,.slice none 0 0] 55));have n5:W5.heap[w4.heap.size]?=some (.cells #[.slice none 0 0,.slice none 0 0] 55 (0,0)):=dO e5;have f5:=bV (l:=[]) HF4.o e5 n5;have vn0:W5.heap[w4.heap.size]?=some (.cells #[.slice none 0 0,.slice none 0 0] 55 (0,0)):=n5;have vc0:ay W5 w4.heap.size 0 (.slice none 0 0):=ak vn0 0;have vf0:=bY vn0 0;obtain⟨u1,ve0⟩:=ai (W5.setCell ⟨w4.heap.size,0,none⟩ (.slice ko kl kc));have vn1:u1.heap[w4.heap.size]?=some (.cells #[.slice ko kl kc,.slice none 0 0] 55 (0,0)):=dK ve0 vn0;have vc1:ay u1 w4.heap.size 1 (.slice none 0 0):=ak vn1 1;have vf1:=bY vn1 1;obtain⟨u2,ve1⟩:=ai (u1.setCell ⟨w4.heap.size,1,none⟩ (.slice no nl nc));have vn2:u2.heap[w4.heap.size]?=some (.cells #[.slice ko kl kc,.slice no nl nc] 55 (0,0)):=dK ve1 vn1;have f6:=aT (k:=0) (i:=0) (v:=.slice ko kl kc) f5 rfl;rw[ve0]at f6;have f7:=aT (m:=[ae w4.heap.size (.cells #[.slice ko kl kc,.slice none 0 0] 55 (0,0))]) (k:=0) (i:=1) (v:=.slice no nl nc) f6 rfl;rw[ve1]at f7;have HB5:=hid (show aj w4 u2 from by
   rw[<-ve1,<-ve0,<-e5];exact((((eH _ _).alloc (bJ _) _).setCell (bJ _) _).setCell (bJ _) _))
  have HF:=hid (show az w4.heap.size w4 u2 [ae w4.heap.size (.cells #[.slice ko kl kc,.slice no nl nc] 55 (0,0)),gI w4.heap.size 2 [],gI w4.heap.size 1 (([]:List (Value×List Value)).map fun c=>(c.1,c.2.length,c.2)),aA w4.heap.size 1 (.slice none 0 0) 0 (([]:List (Value×List Value)).map (·.1))]from iw (mr (mr f7)));obtain⟨c0,c1,c2,c3,c4⟩:=HS.o w4 HC4.o;clear hk1 hk2 f5 f6 f7 n5 vn0 vn1 vn2;go_wp2_with fail;clear vc0 vf0 vc1 vf1 ve0 ve1 e5 c0 c1 c2 c3 c4
  go_loopw [7,34] (fun t7 t34 wr=>∃ (i:Nat) (v:Value) (R:List (Value×Nat×List Value)) (CV:List (Value×List Value)),i<=m/\v=t7/\t34=.int .i64 (i:Int)/\CV.length=i/\dQ (dE G (ag G m).nx (bi G m (E0 G) (F0 G)).C A) (T+1) R CV/\Hid (az w4.heap.size w4 wr [ae w4.heap.size (.cells #[.slice ko kl kc,.slice no nl nc] 55 (0,0)),gI w4.heap.size 2 R,gI w4.heap.size 1 (CV.map fun c=>(c.1,c.2.length,c.2)),aA w4.heap.size 1 v i (CV.map (·.1))])) (fun _ t34 _=>m-(RowKit.intOf t34).toNat)
  case atStart=>exact⟨0,_,[],[],Nat.zero_le _,rfl,rfl,rfl,dQ.nil _ _ _,HF⟩
  case round =>
   clear HF;obtain⟨i,v,R,CV,hiN,rfl,rfl,hcv,hst,HF⟩:=hrel;have HCV:=hid (And.intro hcv hst);clear hcv hst;by_cases hlt:i<m
   ·have j1:(i:Int)<(m:Int):=(by omega);have j0:(0:Int)<=(i:Int):=(by omega);obtain⟨la,lc,e,_,hcs⟩:=HLK.o.2;injection e with e8 _ e9;subst e8;subst e9;obtain⟨lb,lf,rfl,hq⟩:=hcs (by omega);obtain⟨iv,av,z0,z1,hI,hU⟩:=hq i hlt;have HI:=hid hI;have HU:=hid hU;obtain⟨io,ic,rfl,_⟩:=hI;obtain⟨ao,ac,rfl,_⟩:=hU;have HX:=hid (HD4.o.trans (HF.o.bel.mono HD4.o.size));have r0:=cell_below HX.o z0;have r1:=cell_below HX.o z1;rw[List.length_map]at r1;obtain⟨NN,hNN⟩:=ai (((bi G m (E0 G) (F0 G)).C i).length);rw[hNN]at r0 r1;have HNN:=hid hNN;obtain⟨wa,ea⟩:=ai (wr.alloc (.cells #[.slice none 0 0,.slice none 0 0] 48));have na:wa.heap[wr.heap.size]?=some (.cells #[.slice none 0 0,.slice none 0 0] 48 (0,0)):=dO ea;have hfa:=bV HF.o ea na;have vn0:wa.heap[wr.heap.size]?=some (.cells #[.slice none 0 0,.slice none 0 0] 48 (0,0)):=na;have vc0:ay wa wr.heap.size 0 (.slice none 0 0):=ak vn0 0;have vf0:=bY vn0 0;obtain⟨u1,ve0⟩:=ai (wa.setCell ⟨wr.heap.size,0,none⟩ (.slice io NN ic));have vn1:u1.heap[wr.heap.size]?=some (.cells #[.slice io NN ic,.slice none 0 0] 48 (0,0)):=dK ve0 vn0;have vc1:ay u1 wr.heap.size 1 (.slice none 0 0):=ak vn1 1;have vf1:=bY vn1 1;obtain⟨u2,ve1⟩:=ai (u1.setCell ⟨wr.heap.size,1,none⟩ (.slice ao NN ac));have vn2:u2.heap[wr.heap.size]?=some (.cells #[.slice io NN ic,.slice ao NN ac] 48 (0,0)):=dK ve1 vn1;have f6:=aT (k:=0) (i:=0) (v:=.slice io NN ic) hfa rfl;rw[ve0]at f6;have f7:=aT (m:=[ae wr.heap.size (.cells #[.slice io NN ic,.slice none 0 0] 48 (0,0))]) (k:=0) (i:=1) (v:=.slice ao NN ac) f6 rfl;rw[ve1]at f7;have HFu:=hid f7;have HBu:=hid (HB4.o.trans (f7.bel.mono HB4.o.size));have HXu:=hid (HD4.o.trans (f7.bel.mono HD4.o.size));have q0:ay u2 wr.heap.size 0 (.slice io NN ic):=ak vn2 0;have q1:ay u2 wr.heap.size 1 (.slice ao NN ac):=ak vn2 1;obtain⟨c0,c1,c2,c3,c4⟩:=HS.o u2 (HC4.o.trans (f7.bel.mono HC4.o.size));have KP:=hid (EN (us:=((bi G m (E0 G) (F0 G)).C i).map fun x=>A (i,x)) (HGr.o.below HBu.o) HO.o.2 (HI.o.below HXu.o) (eX (qL HO.o.2 m (E0 G) (F0 G) i) (by decide)) (eU.mono HU.o fun _ _ _ hc=>cell_below HXu.o hc) (List.length_map _));rw[List.length_map,hNN]at KP;clear hcs hq z0 z1 f6 f7 hfa na vn0 vn1 vn2 hNN;go_wp2_with fail;refine KP.o.mono ?_;rintro e w6 ⟨pv6,rfl,hb6,hpv⟩;clear c0 c1 c2 c3 c4 q0 q1 r0 r1 vc0 vf0 vc1 vf1 ve0 ve1 ea KP;have hT60:=(bn HO.o.2).1;rw[HTL.o]at hT60;obtain⟨PS,hPS⟩:=ai (gV G ((bi G m (E0 G) (F0 G)).C i) (((bi G m (E0 G) (F0 G)).C i).map fun x=>A (i,x)));have HPS:=hid hPS;rw[hPS]at hpv;obtain⟨po,pc2,rfl⟩:=hpv.shape;have f8:=HFu.o.add (aA w4.heap.size 2 (.slice po PS.length pc2) PS.length (pC PS)) hb6 (jR hpv HFu.o.bel.size) (fun b hb=>nO hpv b hb)
    have HF:=hid (show az w4.heap.size w4 w6 [ae w4.heap.size (.cells #[.slice ko kl kc,.slice no nl nc] 55 (0,0)),gI w4.heap.size 2 R,gI w4.heap.size 1 (CV.map fun c=>(c.1,c.2.length,c.2)),aA w4.heap.size 1 v i (CV.map (·.1)),ae wr.heap.size (.cells #[.slice io NN ic,.slice ao NN ac] 48 (0,0)),aA w4.heap.size 2 (.slice po PS.length pc2) PS.length (pC PS),aA w4.heap.size 1 (.slice none 0 0) 0 []]from iw f8);obtain⟨c0,c1,c2,c3,c4⟩:=HS.o w6 (HC4.o.trans (HF.o.bel.mono HC4.o.size));clear hb6 hpv f8 HFu HBu HXu hPS;generalize wr.heap.size=b48 at *;go_wp2_with fail;clear c0 c1 c2 c3 c4
    go_loopw [11,46] (fun t11 t46 wr=>∃ (k:Nat) (cv:Value) (R:List (Value×Nat×List Value)) (cs:List Value),k<=T+1/\cv=t11/\t46=.int .i64 (k:Int)/\cs.length=k/\(CV.length=i/\dQ (dE G (ag G m).nx (bi G m (E0 G) (F0 G)).C A) (T+1) R CV/\iT (dE G (ag G m).nx (bi G m (E0 G) (F0 G)).C A i) R cs)/\Hid (az w4.heap.size w4 wr [ae w4.heap.size (.cells #[.slice ko kl kc,.slice no nl nc] 55 (0,0)),gI w4.heap.size 2 R,gI w4.heap.size 1 (CV.map fun c=>(c.1,c.2.length,c.2)),aA w4.heap.size 1 v i (CV.map (·.1)),ae b48 (.cells #[.slice io NN ic,.slice ao NN ac] 48 (0,0)),aA w4.heap.size 2 (.slice po PS.length pc2) PS.length (pC PS),aA w4.heap.size 1 cv k cs])) (fun _ t46 _=>T+1-(RowKit.intOf t46).toNat)
    case atStart=>exact⟨0,_,R,[],Nat.zero_le _,rfl,rfl,rfl,⟨HCV.o.1,HCV.o.2,iT.nil _ _⟩,HF⟩
    case round =>
     clear HF;obtain⟨k,cv,R,cs,hkT,rfl,rfl,hcs,hst,HF⟩:=hrel;have HCS:=hid (And.intro hcs hst);clear hcs hst HCV;by_cases hkl:k<T+1
     ·have k1:(k:Int)<(T:Int)+1:=(by omega);have k0:(0:Int)<=(k:Int):=(by omega);have HBr:=hid (HB4.o.trans (HF.o.bel.mono HB4.o.size));obtain⟨c0,c1,c2,c3,c4⟩:=HS.o wr (HC4.o.trans (HF.o.bel.mono HC4.o.size));have nA:wr.heap[w4.heap.size]?=some (.cells #[.slice ko kl kc,.slice no nl nc] 55 (0,0)):=HF.o.ok 0 _ rfl;have a0:ay wr w4.heap.size 0 (.slice ko kl kc):=ak nA 0;have a1:ay wr w4.heap.size 1 (.slice no nl nc):=ak nA 1;have hT60:=(bn HO.o.2).1;rw[HTL.o]at hT60;have HLOW:=hid (show ∀ x∈((bi G m (E0 G) (F0 G)).C i).map (fun x=>A (i,x)),x<18446744073709551616 from fun x hx=>by
       obtain⟨y,_,rfl⟩:=List.mem_map.1 hx;exact HLK.o.1.low _)
      have KDD:=hid (IU (ps:=PS) (HGr.o.below HBr.o) (HAU.o.below HF.o.bel) (rO.built HO.o.1) (i:Int) k (by omega) (tJ.nZ (HF.o.ok 5 _ rfl)) (by rw[<-HPS.o];exact EM _ _ _ (eX (qL HO.o.2 m (E0 G) (F0 G) i) (by decide))) (by rw[<-HPS.o];exact EL HLOW.o));clear nA;go_wp2_with fail;refine KDD.o.mono ?_;rintro e w7 ⟨dv,rfl,hb7,hdv⟩;obtain⟨DD,hDD⟩:=ai (jU G (ag G m).nx (i:Int) k PS);have HDD:=hid (show dE G (ag G m).nx (bi G m (E0 G) (F0 G)).C A i k=DD from by unfold dE;rw[HPS.o,hDD]);rw[hDD]at hdv;obtain⟨do_,dc,rfl⟩:=hdv.shape;have HF7:=hid (show az w4.heap.size w4 w7 [ae w4.heap.size (.cells #[.slice ko kl kc,.slice no nl nc] 55 (0,0)),gI w4.heap.size 2 (R++[(.slice do_ DD.length dc,DD.length,dC DD)]),gI w4.heap.size 1 (CV.map fun c=>(c.1,c.2.length,c.2)),aA w4.heap.size 1 v i (CV.map (·.1)),ae b48 (.cells #[.slice io NN ic,.slice ao NN ac] 48 (0,0)),aA w4.heap.size 2 (.slice po PS.length pc2) PS.length (pC PS),aA w4.heap.size 1 cv k cs]from zO (l:=[]) (k:=1) HF.o rfl hb7 (jR hdv HF.o.bel.size) (fun b hb=>nO hdv b hb));clear c0 c1 c2 c3 c4 a0 a1 KDD hb7 hdv HF hDD;obtain⟨co,cc,rfl⟩:=(show aI w7 w4.heap.size 1 cv k cs from HF7.o.ok 6 _ rfl).shape;obtain⟨wq,eq⟩:=ai (w7.alloc (.cells #[.slice do_ DD.length dc] 87));have nq:wq.heap[w7.heap.size]?=some (.cells #[.slice do_ DD.length dc] 87 (0,0)):=dO eq;have HFq:=hid (HF7.o.below (show aj w7 wq by exact dM eq));have HCQ:=hid (show ∀ j u,[Value.slice do_ DD.length dc][j]?=some u->wq.cell? ⟨w7.heap.size,j,none⟩=some u from fun j u hi=>by
       rw[ak nq,<-hi,<-List.getElem?_toArray])
      have HOQ:=hid (show ∀ q∈[Value.slice do_ DD.length dc],q.oneCell'=true from fun q hq=>by rw[List.mem_singleton.1 hq];rfl);have HBq:=hid (show w4.heap.size<=wq.heap.size from eX HFq.o.le HFq.o.bel.size);have HOW:=hid (show aI wq w4.heap.size 1 (.slice co k cc) k cs from HFq.o.ok 6 _ rfl);have hk12:k<=1000000000000:=by
       have h1:=(bn HO.o.2).1;rw[HTL.o]at h1;omega
      have HK12:=hid hk12;clear nq HF7 hk12;go_wp2_with (refine aU rfl (.tmp 49) (.tmp 56) 85 87 rfl (.slice none 0 0) 1 24 Tryz.underlying85 KJ rfl (by decide) (.slice co k cc) k cs rfl HOW.o w7.heap.size rfl [.slice do_ DD.length dc] rfl HCQ.o HOQ.o HK12.o HBq.o ?_);intro ao2 c8 w8 hown hg8 hat;have h8:=HFq.o.bU 6 rfl hown hg8 hat;have HF8:=hid (show az w4.heap.size w4 w8 [ae w4.heap.size (.cells #[.slice ko kl kc,.slice no nl nc] 55 (0,0)),gI w4.heap.size 2 (R++[(.slice do_ DD.length dc,DD.length,dC DD)]),gI w4.heap.size 1 (CV.map fun c=>(c.1,c.2.length,c.2)),aA w4.heap.size 1 v i (CV.map (·.1)),ae b48 (.cells #[.slice io NN ic,.slice ao NN ac] 48 (0,0)),aA w4.heap.size 2 (.slice po PS.length pc2) PS.length (pC PS),aA w4.heap.size 1 (.slice ao2 (k+1) c8) (k+1) (cs++[.slice do_ DD.length dc])]from h8);clear h8 hown hg8 hat eq;have HC9:=hid (show CV.length=i/\dQ (dE G (ag G m).nx (bi G m (E0 G) (F0 G)).C A) (T+1) (R++[(.slice do_ DD.length dc,DD.length,dC DD)]) CV/\iT (dE G (ag G m).nx (bi G m (E0 G) (F0 G)).C A i) (R++[(.slice do_ DD.length dc,DD.length,dC DD)]) (cs++[.slice do_ DD.length dc])from
       ⟨HCS.o.2.1,HCS.o.2.2.1.more,by
        have h1:=HCS.o.2.2.2.push (.slice do_ DD.length dc);rw[HCS.o.1,HDD.o]at h1;exact h1⟩)
      go_wp2_with fail;refine⟨⟨k+1,_,R++[(.slice do_ DD.length dc,DD.length,dC DD)],cs++[.slice do_ DD.length dc],by omega,rfl,rfl,by rw[List.length_append,HCS.o.1];rfl,HC9.o,HF8⟩,?_⟩;show T+1-((k:Int)+1).toNat<T+1-((k:Int)).toNat;omega
     ·have k1:¬ (k:Int)<(T:Int)+1:=(by omega);have HKT:=hid (show k=T+1 from by omega);obtain⟨vo2,vc2,rfl⟩:=(show aI wr w4.heap.size 1 v i _ from HF.o.ok 3 _ rfl).shape;obtain⟨co,cc,rfl⟩:=(show aI wr w4.heap.size 1 cv k cs from HF.o.ok 6 _ rfl).shape;obtain⟨wq,eq⟩:=ai (wr.alloc (.cells #[.slice co k cc] 85));have nq:wq.heap[wr.heap.size]?=some (.cells #[.slice co k cc] 85 (0,0)):=dO eq;have HFq:=hid (HF.o.below (show aj wr wq by exact dM eq));have HCQ:=hid (show ∀ j u,[Value.slice co k cc][j]?=some u->wq.cell? ⟨wr.heap.size,j,none⟩=some u from fun j u hi=>by
       rw[ak nq,<-hi,<-List.getElem?_toArray])
      have HOQ:=hid (show ∀ q∈[Value.slice co k cc],q.oneCell'=true from fun q hq=>by rw[List.mem_singleton.1 hq];rfl);have HBq:=hid (show w4.heap.size<=wq.heap.size from eX HFq.o.le HFq.o.bel.size);have HOW:=hid (show aI wq w4.heap.size 1 (.slice vo2 i vc2) i (CV.map (·.1))from HFq.o.ok 3 _ rfl);have hm5:m<=100000:=(by have h1:=HO.o.1.1.le;have h2:=HO.o.1.inv.2.2;omega);have HI12:=hid (show i<=1000000000000 from by omega);clear nq HF;go_wp2_with (refine aU rfl (.tmp 59) (.tmp 61) 78 85 rfl (.slice none 0 0) 1 24 Tryz.underlying78 info85 rfl (by decide) (.slice vo2 i vc2) i (CV.map (·.1)) rfl HOW.o wr.heap.size rfl [.slice co k cc] rfl HCQ.o HOQ.o HI12.o HBq.o ?_);intro ao2 c8 w8 hown hg8 hat;have h8:=HFq.o.bU 3 rfl hown hg8 hat;have h9:=kK (l:=[ae w4.heap.size (.cells #[.slice ko kl kc,.slice no nl nc] 55 (0,0)),gI w4.heap.size 2 R,aA w4.heap.size 1 (.slice ao2 (i+1) c8) (i+1) (CV.map (·.1)++[.slice co k cc])]) (h8.pick [ae w4.heap.size (.cells #[.slice ko kl kc,.slice no nl nc] 55 (0,0)),gI w4.heap.size 2 R,aA w4.heap.size 1 (.slice ao2 (i+1) c8) (i+1) (CV.map (·.1)++[.slice co k cc]),aA w4.heap.size 1 (.slice co k cc) k cs,gI w4.heap.size 1 (CV.map fun c=>(c.1,c.2.length,c.2))] (fun q=>[0,1,3,6,2].getD q 0) (fun q x hx=>by
       match q,hx with
       | 0,hx=>exact hx
       | 1,hx=>exact hx
       | 2,hx=>exact hx
       | 3,hx=>exact hx
       | 4,hx=>exact hx
       | q+5,hx=>simp at hx) (fun a b ha hb he=>pick5 a ha b hb he))
      have h10:=h9.pick [ae w4.heap.size (.cells #[.slice ko kl kc,.slice no nl nc] 55 (0,0)),gI w4.heap.size 2 R,gI w4.heap.size 1 ((CV.map fun c=>(c.1,c.2.length,c.2))++[(.slice co k cc,k,cs)]),aA w4.heap.size 1 (.slice ao2 (i+1) c8) (i+1) (CV.map (·.1)++[.slice co k cc])] (fun q=>[0,1,3,2].getD q 0) (fun q x hx=>by
       match q,hx with
       | 0,hx=>exact hx
       | 1,hx=>exact hx
       | 2,hx=>exact hx
       | 3,hx=>exact hx
       | q+4,hx=>simp at hx) (fun a b ha hb he=>pick4 a ha b hb he)
      have HF8:=hid (show az w4.heap.size w4 w8 [ae w4.heap.size (.cells #[.slice ko kl kc,.slice no nl nc] 55 (0,0)),gI w4.heap.size 2 R,gI w4.heap.size 1 ((CV++[(Value.slice co k cc,cs)]).map fun c=>(c.1,c.2.length,c.2)),aA w4.heap.size 1 (.slice ao2 (i+1) c8) (i+1) ((CV++[(Value.slice co k cc,cs)]).map (·.1))]from by rw[List.map_append,List.map_append,List.map_cons,List.map_cons,List.map_nil,List.map_nil,HCS.o.1];exact h10);clear h8 h9 h10 hown hg8 hat eq;have HC9:=hid (show(CV++[(Value.slice co k cc,cs)]).length=i+1/\dQ (dE G (ag G m).nx (bi G m (E0 G) (F0 G)).C A) (T+1) R (CV++[(Value.slice co k cc,cs)])from
       ⟨by rw[List.length_append,HCS.o.2.1];rfl,HCS.o.2.2.1.push (HCS.o.1.trans HKT.o) (by rw[HCS.o.2.1];exact HCS.o.2.2.2)⟩)
      go_wp2_with fail;refine⟨⟨i+1,_,R,CV++[(.slice co k cc,cs)],by omega,rfl,rfl,HC9.o.1,HC9.o.2,HF8⟩,?_⟩;show m-((i:Int)+1).toNat<m-((i:Int)).toNat;omega
   ·have j1:¬ (i:Int)<(m:Int):=(by omega);obtain rfl:i=m:=(by omega);have HFIN:=hid HF.o;clear HF;go_wp2_with fail;refine bodyPost_ret (results_tmp2 rfl _ _ _) rfl ?_;refine⟨HB4.o.trans (HFIN.o.bel.mono HB4.o.size),.inr ⟨HVB.o,i,.inr ⟨HO.o.1,_,A,rfl,HLK.o.1,?_⟩⟩⟩;rw[HTL.o];exact vV (HFIN.o.ok 1 _ rfl) (HFIN.o.ok 2 _ rfl) (HFIN.o.ok 3 _ rfl) HCV.o.1 HCV.o.2
open aO (It)
open aJ (u64 aZ)
theorem info91b:(Tryz.prog.info? 91).map (fun i=>(i.zero,i.size,i.bytes))=some (some (.agg #[.int .i64 0,.int .i64 0]),2,16):=by kernel_rfl
def vz (x:It):Value×Value:=(.int .i64 x.1,.int .i64 x.2)
theorem zW (l:List It):dC l=rcells (l.map vz):=by
 unfold dC rcells;induction l with
 | nil=>rfl
 | cons x l ih=>rw[List.flatMap_cons,List.map_cons,List.flatMap_cons,ih];rfl
theorem EW (n:Nat)(hn:n<=1000000)(w:World):(Instr.makeSlice 87 (.int .i64 (n:Int)) (.int .i64 (n:Int))).run Tryz.prog w=.ok (.slice (some ⟨w.heap.size,0,none⟩) n n) (w.alloc (.cells (rcells ((List.replicate n ((0,0):It)).map vz)).toArray 91)):=by
 obtain⟨i0,hi,hz0,hz1,hz2⟩:=info_parts info91b;have:=run_makeSlice (P:=Tryz.prog) (w:=w) 87 91 i0 (.agg #[.int .i64 0,.int .i64 0]) Tryz.underlying87 hi hz0 .i64 .i64 (n:Int) (n:Int) (by omega) (by omega) (by rw[hz1];omega) (by rw[hz2];omega) (by omega);rw[this,hz1];have hl:∀ n,(rcells ((List.replicate n ((0,0):It)).map vz))=List.replicate (n*2) (.int .i64 0):=fun n=>by
  induction n with
  | zero=>rfl
  | succ n ih=>rw[List.replicate_succ,List.map_cons,lh,ih,show(n+1)*2=n*2+1+1 by omega,List.replicate_succ,List.replicate_succ];rfl
 have e:madeCells (Value.agg #[.int .i64 0,.int .i64 0]).cells ((n:Int).toNat*2)=(rcells ((List.replicate n ((0,0):It)).map vz)).toArray:=by
  rw[hl,Int.toNat_natCast];refine Array.ext (by simp[madeCells]) fun i h1 h2=>?_;simp[madeCells,Value.cells];rcases(show i % 2=0\/i % 2=1 by omega)with h3 | h3<;>simp[h3]
 rw[e,Int.toNat_natCast]
def eF (D:Nat->List It)(m j:Nat):List It:=(List.range m).map fun k=>if k<j then(D k).headD (0,0)else(0,0)
theorem jK (D:Nat->List It)(m j:Nat):(eF D m j).length=m:=by unfold eF;simp
theorem lZ {D:Nat->List It}{m j k:Nat}(h:k<m):(eF D m j)[k]?=some (if k<j then(D k).headD (0,0)else(0,0)):=by
 unfold eF;rw[List.getElem?_map,List.getElem?_range h];rfl
theorem EO (D:Nat->List It)(m:Nat):eF D m 0=List.replicate m (0,0):=by
 refine List.ext_getElem? fun k=>?_;by_cases h:k<m
 ·rw[lZ h,List.getElem?_replicate,if_pos h];rfl
 ·rw[List.getElem?_eq_none (by rw[jK];omega),List.getElem?_eq_none (by rw[List.length_replicate];omega)]
theorem EQ {D:Nat->List It}{m j:Nat}(h:j<m):eF D m (j+1)=(eF D m j).set j ((D j).headD (0,0)):=by
 refine List.ext_getElem? fun k=>?_;rw[List.getElem?_set,jK];by_cases hk:k<m
 ·rw[lZ hk,lZ hk];by_cases e:j=k
  ·subst e;rw[if_pos rfl,if_pos h,if_pos (by omega)]
  ·rw[if_neg e];congr 1;by_cases hj:k<j
   ·rw[if_pos hj,if_pos (by omega)]
   ·rw[if_neg hj,if_neg (by omega)]
 ·rw[List.getElem?_eq_none (by rw[jK];omega),List.getElem?_eq_none (by rw[jK];omega),if_neg (by omega)]
theorem EP {D:Nat->List It}{m j:Nat}(h:D j=[]):eF D m (j+1)=eF D m j:=by
 unfold eF;refine List.map_congr_left fun k _=>?_;by_cases e:k=j
 ·subst e;rw[if_pos (by omega),if_neg (by omega),h];rfl
 ·by_cases hj:k<j
  ·rw[if_pos hj,if_pos (by omega)]
  ·rw[if_neg hj,if_neg (by omega)]
def jA (D:Nat->List It)(m:Nat):Nat->Nat
 | 0=>0
 | j+1=>if D j=[]then jA D m j else jA D m j ||| aZ (if j+1=m then 63 else(j:Int))
theorem jW (z:Int):aZ z<18446744073709551616:=by
 unfold aZ;split
 ·have h:z.toNat<64:=by omega
  exact Nat.pow_lt_pow_right (by decide) h
 ·decide
theorem Gw (D:Nat->List It)(m:Nat):∀ j,jA D m j<18446744073709551616
 | 0=>by unfold jA;decide
 | j+1=>by
  have:=Gw D m j;unfold jA;split
  ·exact this
  ·exact aJ.oH this (jW _)
def OnlyP (D:Nat->List It)(m:Nat)(w:World)(e:Ending)(w':World):Prop:=
 ∃ v,e=.returned (.tuple #[v,u64 (jA D m m)])/\aj w w'/\aI w' w.heap.size 2 v m (dC (eF D m m))
theorem JL {w:World}{B b m:Nat}{l:List It}(hB:B<=b)(hl:l.length=m)(hm:m<=1000)(h:w.heap[b]?=some (.cells (rcells (l.map vz)).toArray 91 (0,0))):aI w B 2 (.slice (some ⟨b,0,none⟩) m m) m (dC l):=by
 refine⟨by rw[zX,hl],.inr ⟨b,0,m,rfl,hB,(dZ h),bJ _,by unfold maxLen;omega,fun j u hj=>?_,fun j hj=>⟨?_,?_⟩⟩⟩
 ·rw[Nat.zero_add,ak h j,List.getElem?_toArray,<-zW];exact hj
 ·rw[Nat.zero_add,ak h j,List.getElem?_toArray,<-zW,dH (by rw[zX,hl];exact hj)];rfl
 ·exact bY h _
theorem JP {v:Value}{w:World}{m:Nat}{D:Nat->List It}(h:bz w v m (fun k u=>aS w u (D k)))(h0:0<m)(hm:m<=61) :
  Calls Tryz.prog 80 #[v] w (OnlyP D m w):=by
 have HV:=hid h;obtain⟨vo,vc,rfl,_⟩:=h.len;obtain⟨W1,e1⟩:=ai (w.alloc (.cells (rcells ((List.replicate m ((0,0):It)).map vz)).toArray 91));have hmk:=EW m (by omega) w;rw[e1]at hmk;have n1:W1.heap[w.heap.size]?=some (.cells (rcells ((List.replicate m ((0,0):It)).map vz)).toArray 91 (0,0)):=dO e1;have HF:=hid (show az w.heap.size w W1 [ae w.heap.size (.cells (rcells ((eF D m 0).map vz)).toArray 91 (0,0))]from by rw[EO];exact bV (l:=[]) (az.empty w w.heap.size (bJ _)) e1 n1);clear h n1;go_enter Tryz.func80,Tryz.ntmps80;go_wp2_with fail;clear hmk e1
 go_loopw [4,13] (fun t4 t13 wr=>∃ (i mv:Nat),i<=m/\t4=u64 mv/\t13=.int .i64 (i:Int)/\Hid (mv=jA D m i)/\Hid (az w.heap.size w wr [ae w.heap.size (.cells (rcells ((eF D m i).map vz)).toArray 91 (0,0))])) (fun _ t13 _=>m-(RowKit.intOf t13).toNat)
 case atStart=>exact⟨0,0,Nat.zero_le _,rfl,rfl,hid rfl,HF⟩
 case round =>
  clear HF;obtain⟨i,mv,hiN,rfl,rfl,HM,HF⟩:=hrel;by_cases hlt:i<m
  ·have j1:(i:Int)<(m:Int):=by omega
   have j0:(0:Int)<=(i:Int):=by omega
   obtain⟨b,off,u,rfl,u1,u2⟩:=HV.o.at_ hlt;obtain⟨uo,uc,rfl,_⟩:=u2.len;have r0:=cell_below HF.o.bel u1;have HU:=hid (aS.below u2 HF.o.bel);obtain⟨NN,hNN⟩:=ai ((D i).length);rw[hNN]at r0 HU;have HNN:=hid hNN;clear u1 u2 hNN;by_cases hz:NN=0
   ·have z0:((NN:Int) == 0)=true:=by rw[hz];rfl
    have z1:(NN == 0)=true:=by rw[hz];rfl
    have hDi:D i=[]:=List.eq_nil_of_length_eq_zero (by rw[HNN.o];exact hz);have HF8:=hid (show az w.heap.size w wr [ae w.heap.size (.cells (rcells ((eF D m (i+1)).map vz)).toArray 91 (0,0))]from by rw[EP hDi];exact HF.o);have HM8:=hid (show mv=jA D m (i+1)from by rw[HM.o];unfold jA;rw[if_pos hDi];cases i<;>rfl);clear HF hDi hz;go_wp2_with fail;refine⟨⟨i+1,mv,by omega,rfl,rfl,HM8,HF8⟩,?_⟩;show m-((i:Int)+1).toNat<m-((i:Int)).toNat;omega
   ·have z0:((NN:Int) == 0)=false:=by rw[beq_eq_false_iff_ne];omega
    have z1:(NN == 0)=false:=by rw[beq_eq_false_iff_ne];exact hz
    have zp:0<NN:=(by omega);have zq:(0:Int)<(NN:Int):=(by omega);obtain⟨x,xs,hDi⟩:∃ x xs,D i=x::xs:=by
     cases hd:D i with
     | nil=>rw[hd]at HNN;exact absurd HNN.o.symm hz
     | cons x xs=>exact⟨x,xs,rfl⟩
    have HDI:=hid hDi;obtain⟨b2,off2,rfl,y0,y1⟩:=(show aS wr (.slice uo NN uc) (D i)from HU.o).at_ (k:=0) (x:=x) (by rw[hDi];rfl);rw[Nat.zero_mul,Nat.add_zero]at y0 y1;obtain⟨L,hL⟩:=ai (eF D m i);rw[hL]at HF;have HLL:=hid hL;have hLl:L.length=m:=by rw[<-hL];exact jK _ _ _
    have hLi:(L.map vz)[i]?=some (vz (0,0)):=by rw[List.getElem?_map,<-hL,lZ hlt,if_neg (by omega)];rfl
    have n0:wr.heap[w.heap.size]?=some (.cells (rcells (L.map vz)).toArray 91 (0,0)):=HF.o.ok 0 _ rfl;have c0:wr.cell? ⟨w.heap.size,i*2,none⟩=some (.int .i64 0):=by rw[ak n0,List.getElem?_toArray];exact(jg hLi).1
    have f0:=bY n0 (i*2);obtain⟨v1,ve1⟩:=ai (wr.setCell ⟨w.heap.size,i*2,none⟩ (.int .i64 x.1));have q1:=aT (l:=[]) (k:=0) (i:=i*2) (v:=.int .i64 x.1) HF.o rfl;rw[ve1]at q1;have n2:=au (l:=[]) (k:=0) q1 rfl;rw[List.setIfInBounds_toArray,nN _ hLi]at n2;have c1:v1.cell? ⟨w.heap.size,i*2+1,none⟩=some (.int .i64 0):=by
     rw[ak n2,List.getElem?_toArray];exact(jg (l:=(L.map vz).set i (.int .i64 x.1,(vz (0,0)).2)) (i:=i) (p:=(.int .i64 x.1,.int .i64 0)) (by rw[List.getElem?_set_self (List.getElem?_eq_some_iff.1 hLi).1];rfl)).2
    have f1:=bY n2 (i*2+1);obtain⟨v2,ve2⟩:=ai (v1.setCell ⟨w.heap.size,i*2+1,none⟩ (.int .i64 x.2));have q2:=aT (l:=[]) (k:=0) (i:=i*2+1) (v:=.int .i64 x.2) q1 rfl;rw[ve2]at q2;have HF8:=hid (show az w.heap.size w v2 [ae w.heap.size (.cells (rcells ((eF D m (i+1)).map vz)).toArray 91 (0,0))]from by
     rw[EQ hlt,HLL.o,HDI.o];have e0:(rcells (L.map vz)).toArray.setIfInBounds (i*2) (.int .i64 x.1)=(rcells ((L.map vz).set i (.int .i64 x.1,(vz (0,0)).2))).toArray:=by rw[List.setIfInBounds_toArray,nN _ hLi]
     have e1:(rcells ((L.map vz).set i (.int .i64 x.1,(vz (0,0)).2))).toArray.setIfInBounds (i*2+1) (.int .i64 x.2)=(rcells (((L.map vz).set i (.int .i64 x.1,(vz (0,0)).2)).set i (.int .i64 x.1,.int .i64 x.2))).toArray:=by
      rw[List.setIfInBounds_toArray,qx (p:=(.int .i64 x.1,(vz (0,0)).2)) _ (by rw[List.getElem?_set_self (List.getElem?_eq_some_iff.1 hLi).1])]
     have e:((rcells (L.map vz)).toArray.setIfInBounds (i*2) (.int .i64 x.1)).setIfInBounds (i*2+1) (.int .i64 x.2)=(rcells ((L.set i x).map vz)).toArray:=by
      rw[e0,e1,List.set_set,List.map_set];rfl
     show az w.heap.size w v2 [ae w.heap.size (.cells (rcells ((L.set i x).map vz)).toArray 91 (0,0))];rw[<-e];exact q2)
    have KW:∀ z,Hid (Calls Tryz.prog 39 #[u64 mv,.int .i64 z] v2 fun e w'=>e=.returned (u64 (mv ||| aZ z))/\v2=w'):=fun z=>hid (aJ.Eg mv z (by rw[HM.o];exact Gw _ _ _) v2);have HM8:=hid (show mv ||| aZ (if i+1=m then 63 else(i:Int))=jA D m (i+1)from by
     rw[HM.o];show _=(if D i=[]then jA D m i else jA D m i ||| aZ (if i+1=m then 63 else(i:Int)));rw[if_neg (show ¬ D i=[]by rw[HDI.o];simp)])
    clear HF q1 q2 n0 n2 hL hLi hDi;by_cases hlast:i+1=m
    ·have d0:((i:Int) == (m:Int)-1)=true:=by rw[beq_iff_eq];omega
     have KW1:=KW 63;rw[if_pos hlast]at HM8;have HLAST:=hid hlast;clear KW hlast;go_wp2_with fail;refine KW1.o.mono ?_;rintro e w9 ⟨rfl,rfl⟩;go_wp2_with fail;refine⟨⟨i+1,_,by omega,rfl,rfl,HM8,HF8⟩,?_⟩;show m-((i:Int)+1).toNat<m-((i:Int)).toNat;omega
    ·have d0:((i:Int) == (m:Int)-1)=false:=by rw[beq_eq_false_iff_ne];omega
     have KW1:=KW (i:Int);rw[if_neg hlast]at HM8;clear KW hlast;go_wp2_with fail;refine KW1.o.mono ?_;rintro e w9 ⟨rfl,rfl⟩;go_wp2_with fail;refine⟨⟨i+1,_,by omega,rfl,rfl,HM8,HF8⟩,?_⟩;show m-((i:Int)+1).toNat<m-((i:Int)).toNat;omega
  ·have j1:¬ (i:Int)<(m:Int):=by omega
   obtain rfl:i=m:=by omega
   have HOW:=hid (JL (bJ _) (jK _ _ _) (by omega) (show wr.heap[w.heap.size]?=_ from HF.o.ok 0 _ rfl));have HBE:=hid HF.o.bel;clear HF;go_wp2_with fail;refine bodyPost_ret (results_tmp2 rfl _ _ _) rfl ?_;unfold OnlyP;rw[<-HM.o];exact⟨_,rfl,HBE.o,HOW.o⟩
end Go.Proofs.YticmnfmijdgmbaaGreatDoor
