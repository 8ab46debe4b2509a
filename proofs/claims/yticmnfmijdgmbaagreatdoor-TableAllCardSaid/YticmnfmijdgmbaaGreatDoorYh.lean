import Derived.Test.YticmnfmijdgmbaaGreatDoorQKo
set_option linter.all false
set_option maxRecDepth 100000
set_option maxHeartbeats 32000000
namespace Go.Proofs.YticmnfmijdgmbaaGreatDoor
open Go Go.RowKit Go.Lib
open aO (It ag aN ax aY bg)
open aJ (u64 aZ top fM E0 F0 cutV AQ Fg)
open aJ.cZ (Pl iI xA jD nI RX jX dJ places bi)
def RightD (l:List Int)(w:World)(e:Ending)(w':World):Prop:=∃ o c,e=.returned (.slice o l.length c)/\l.length<=c/\dw w' (.slice o l.length c) l/\aj w w'
theorem Em {G:GD}{gv:Value}{w:World}(h:fZ w gv G)(hv:aB G=true)(a:Int)(h1:-1<=a)(h2:a<(G.prods.length:Int)) :
  Calls Tryz.prog 26 #[gv,.int .i64 a] w (RightD (ax G a) w):=by
 obtain⟨tv,ov,sv,pv,tf,rv,h⟩:=h;obtain⟨W1,B,hW1,hB,c0,c1,c2,c3,c4,hG,hb,hsz⟩:=gU h;obtain⟨s0,s1,_⟩:=dR hv;have hgv:=h.eq;subst hgv hB;have e1:=hW1.symm;have HB2:=hid hb;have HG2:=hid hG;by_cases hx:a=-1
 ·subst hx;obtain⟨W3,e3⟩:=ai (W1.alloc (.cells #[.int .i64 (-1-G.start)] 61));have hb3:aj W1 W3:=dM e3;have HN3:=hid (show W3.heap[W1.heap.size]?=some (.cells #[.int .i64 (-1-G.start)] 61 (0,0))from by rw[<-e3];exact heap_alloc_new _ _);have HB3:=fJ HB2 hb3;have HS:=hid (And.intro s0 s1);clear hW1 hb hb3 hG h;go_enter Tryz.func26,Tryz.ntmps26;go_wp2_with fail;go_ret;refine⟨_,_,rfl,bJ _,⟨⟨_,_,rfl,by show(1:Nat)<=9223372036854775807;decide,fun _=>⟨_,0,rfl,fun i hi=>?_⟩⟩,fun y hy=>?_⟩,HB3.o⟩
  ·obtain rfl:i=0:=by have:i<1:=hi;omega
   exact ak HN3.o 0
  ·obtain rfl:y=-1-G.start:=by simpa[ax] using hy
   have:=HS.o;omega
 ·obtain⟨p,rfl⟩:∃ p:Nat,a=(p:Int):=⟨a.toNat,by omega⟩;have hp:p<G.prods.length:=by omega
  have HR:=hid (show ax G (p:Int)=(G.prods.getD p default).rs from by unfold ax;rw[if_neg hx,Int.toNat_natCast]);have HI:=hid (HG2.o.rights p hp);obtain⟨pa,pc,rfl,hpn,hpc⟩:=HG2.o.prods;obtain⟨pb,po,rfl,hpq⟩:=hpc (by omega);obtain⟨_,_,q2,_⟩:=hpq p hp;obtain⟨ra,rc,hrv,_⟩:=(HG2.o.rights p hp).1;obtain⟨rn,hrn⟩:=ai ((G.prods.getD p default).rs.length);have HRN:=hid hrn;rw[hrn]at hrv;have HRV:=hid hrv;rw[hrv]at q2;have p0:(0:Int)<=(p:Int):=by omega
  clear hW1 hb hG h hpq hrv hrn;go_enter Tryz.func26,Tryz.ntmps26;go_wp2_with fail;go_ret;have hcap:=HG2.o.caps p hp _ _ _ HRV.o;have hrl:(ax G (p:Int)).length=rn:=by rw[HR.o];exact HRN.o
  refine⟨ra,rc,by rw[hrl];rfl,by rw[hrl];exact hcap,?_,HB2.o⟩;rw[HR.o,HRN.o];have:=HI.o;rw[HRV.o]at this;exact this
section
variable {B n:Nat}{W w w':World}{l1 l2 m m':List Item}{GB:List Nat}{C:Nat->List It}{A:Pl->Nat}
theorem vG (h:az B W w (l1++(bI GB C A n++(l2++m)))){o:Obj}(hb:aj w w')(hn:w'.heap[w.heap.size]?=some o):az B W w' (l1++(bI GB C A n++(l2++(m++[ae w.heap.size o])))):=by
 have:=h.add (ae w.heap.size o) hb hn (fun b hb2=>by
  have:b∈[w.heap.size]:=hb2;obtain rfl:b=w.heap.size:=by simpa using this
  exact⟨bJ _,(dZ hn)⟩)
 simpa only[List.append_assoc] using this
theorem jT (h:az B W w (l1++(bI GB C A n++(l2++(m++m'))))):az B W w (l1++(bI GB C A n++(l2++m))):=by
 have h2:az B W w ((l1++(bI GB C A n++(l2++m)))++m'):=by simpa only[List.append_assoc] using h
 exact aV h2
theorem Le (h:az B W w (l1++(bI GB C A n++(l2++m)))):az B W w (l1++(bI GB C A n++l2)):=by
 have h2:az B W w ((l1++(bI GB C A n++l2))++m):=by simpa only[List.append_assoc] using h
 exact aV h2
theorem jh (h:az B W w (l1++(bI GB C A n++(l2++m)))){y:Item}(hy:y∈m):y.ok w:=Lm h (by simp[hy])
end
def RoundP (G:GD)(n:Nat)(W:World)(A0:Pl->Nat)(GB:List Nat)(PRE l2:List Item)(e:Ending)(w':World):Prop:=
 ∃ A c,e=.returned (.bool c)/\RX (dJ (bi G n (E0 G) (F0 G))) (places (bi G n (E0 G) (F0 G)) n) (0,(-1,0)) (aZ 63) A0 A c/\(c=false->jX (bi G n (E0 G) (F0 G)) A0 n 0)/\az W.heap.size W w' (PRE++(bI GB (bi G n (E0 G) (F0 G)).C A n++l2))
def MetP (G:GD)(n:Nat)(A0:Pl->Nat)(ch:Bool)(i k:Nat)(xp:Int)(d:Nat)(s:Int)(s0 mv p:Nat):Prop:=ch=false->jX (bi G n (E0 G) (F0 G)) A0 i k/\s0=A0 (i,(xp,(d:Int)))/\∀ (p':Nat) (q:Nat),p'<p->((bi G n (E0 G) (F0 G)).C i)[p']?=some ((q:Int),(0:Int))->bg G q=-1-s->fM mv (A0 (i,((q:Int),0)))
def FN (G:GD)(n:Nat)(A0:Pl->Nat)(c:Bool)(i k:Nat):Prop:=c=false->jX (bi G n (E0 G) (F0 G)) A0 i k
theorem Ib {n rb rf rc:Nat}{W w:World}{G:GD}{gv av:Value}{F:List (Nat×List It)}{GB:List Nat}{LL:List (Value×Value)}{r0 l2:List Item}{A0:Pl->Nat}(hG:fZ W gv G)(ha:jY W av (ag G n).ker (ag G n).nx)(hV:aB G=true)(hok:aN G n)
  (hF:az W.heap.size W w ((aA W.heap.size 2 (.slice (some ⟨rb,rf,none⟩) n rc) n (rcells LL)::dY F::r0)++(bI GB (bi G n (E0 G) (F0 G)).C A0 n++l2))) (hR:Ei (bi G n (E0 G) (F0 G)).C n F GB LL)
  (hA:nI (dJ (bi G n (E0 G) (F0 G))) (places (bi G n (E0 G) (F0 G)) n) (0,(-1,0)) (aZ 63) A0 []) :
  Calls Tryz.prog 50 #[gv,av,.slice (some ⟨rb,rf,none⟩) n rc] w (RoundP G n W A0 GB (aA W.heap.size 2 (.slice (some ⟨rb,rf,none⟩) n rc) n (rcells LL)::dY F::r0) l2):=by
 have HGr:=hid hG;have HAV:=hid ha;have HVAL:=hid hV;have HOK:=hid hok;have HRR:=hid hR;have HA:=hid hA;have HNX:=hid (rO.built hok);have HGB:=hid (fun(i:Nat) (x:It) (s:Int) (hi:i<n) (hx:x∈(bi G n (E0 G) (F0 G)).C i) (hb:aY G x=some s)=>aJ.cZ.jS (E:=E0 G) (F:=F0 G) hok (zi hV) hi hx hb);have HCX:=hid (aJ.cZ.zY (E:=E0 G) hok (zi hV) (aJ.fC hV).2.2);have HCL:=hid (qL hV n (E0 G) (F0 G));have HND:=hid (show ∀ i,((bi G n (E0 G) (F0 G)).C i).Nodup from fun i=>aO.iQ.nodup (aO.eY G _).1);have hn1:n<=2000:=D8 hok;have hn0:0<n:=aJ.cZ.uk hok;have hkl:=hok.inv.2.2;have hnl:=(aO.iL G n).2;obtain⟨kv,nv,rfl,hkv,hnv⟩:=ha;obtain⟨ko,kc,rfl,_⟩:=hkv.len;obtain⟨no,nc,rfl,_⟩:=hnv.len;rw[hkl,hnl]at HAV ⊢;obtain⟨tv,ov,sv,pv,tf,rv,h⟩:=hG;have HGA:=hid h;have hgv:=h.eq;subst hgv;obtain⟨np,hnp⟩:=ai (G.prods.length);obtain⟨pa,pc,hpv,hpn,hpx⟩:=h.prods;rw[hnp]at hpv hpn hpx;subst hpv;obtain⟨PRE,hPRE⟩:=ai ((aA W.heap.size 2 (.slice (some ⟨rb,rf,none⟩) n rc) n (rcells LL)::dY F::r0));have HCE:=hid (show ∀ (wx:World) (m:List Item),az W.heap.size W wx (PRE++m)->∀ i,i<n->∃ g c,wx.cell? ⟨rb,rf+i*2,none⟩=some (.slice (some ⟨g,0,none⟩) ((bi G n (E0 G) (F0 G)).C i).length c)/\wx.cell? ⟨rb,rf+i*2+1,none⟩=some (.slice (some ⟨GB.getD i 0,0,none⟩) ((bi G n (E0 G) (F0 G)).C i).length ((bi G n (E0 G) (F0 G)).C i).length)/\je wx g ((bi G n (E0 G) (F0 G)).C i)/\(g,(bi G n (E0 G) (F0 G)).C i)∈F from fun wx m hf i hi=>by
  rw[<-hPRE]at hf;obtain⟨g,c,h1,h2⟩:=hR.at_ i hi;obtain⟨g',c',k1,k2,k3⟩:=uT (aV hf) hR hi;obtain⟨q0,q1⟩:=jg h1;have hq:aI _ W.heap.size 2 (.slice (some ⟨rb,rf,none⟩) n rc) n (rcells LL):=hf.ok 0 _ rfl;have hz:(dY F).ok _:=hf.ok 1 _ rfl;obtain⟨hl,⟨e,_⟩ | ⟨g3,off,cap,e,_,_,_,_,h3,_⟩⟩:=hq
  ·cases e
  ·injection e with e1 e2 e3;injection e1 with e1;injection e1 with e1 e4;subst e1;subst e4;exact⟨g,c,h3 _ _ q0,k2,hz _ h2,h2⟩)
 have HFZ:=hid (show ∀ (wx:World) (m:List Item),az W.heap.size W wx (PRE++m)->∀ g i,(g,(bi G n (E0 G) (F0 G)).C i)∈F->je wx g ((bi G n (E0 G) (F0 G)).C i)from fun wx m hf g i hgi=>by
  rw[<-hPRE]at hf;have hz:(dY F).ok _:=hf.ok 1 _ rfl;exact hz _ hgi)
 rw[hPRE]at hF ⊢;obtain⟨W1,e1⟩:=ai (w.alloc (.cells #[tv,ov,sv,.slice pa np pc,.int .i64 G.start] 27));have n1:W1.heap[w.heap.size]?=some (.cells #[tv,ov,sv,.slice pa np pc,.int .i64 G.start] 27 (0,0)):=dO e1;have hb1:aj w W1:=dM e1;obtain⟨W2,e2⟩:=ai (W1.alloc (.cells #[.slice ko n kc,.slice no n nc] 38));have n2:W2.heap[W1.heap.size]?=some (.cells #[.slice ko n kc,.slice no n nc] 38 (0,0)):=dO e2;have hb2:aj W1 W2:=dM e2;have hf1:=vG (m:=[]) (by simpa using hF) hb1 n1;have hf2:=vG hf1 hb2 n2;obtain⟨b38,hb38⟩:=ai (W1.heap.size);rw[hb38]at hf2;have HF0:Hid (az W.heap.size W W2 (PRE++(bI GB (bi G n (E0 G) (F0 G)).C A0 n++(l2++[ae w.heap.size (.cells #[tv,ov,sv,.slice pa np pc,.int .i64 G.start] 27 (0,0)),ae b38 (.cells #[.slice ko n kc,.slice no n nc] 38 (0,0))])))):=hid hf2;have HX0:=hid (RX.start hA);have HM0:=hid (show FN G n A0 false 0 0 from fun _=>jX.start _ _);clear hV hok hR hA hkl hnl hkv hnv h hF n1 hb1 n2 hb2 hf1 hf2 hPRE;go_enter Tryz.func50,Tryz.ntmps50;go_wp2_with fail;try rw[hb38]
 clear e1 e2 hb38
 go_loopw [7,8,9,10,11,12,13,14,15,16,17,18,19,20,21] (fun t7 t8 t9 t10 t11 t12 t13 t14 t15 t16 t17 t18 t19 t20 t21 wr=>∃ (i:Nat) (A:Pl->Nat) (ch:Bool),i<=n/\t8=.int .i64 (i:Int)/\t7=.bool ch/\Hid (RX (dJ (bi G n (E0 G) (F0 G))) (places (bi G n (E0 G) (F0 G)) n) (0,(-1,0)) (aZ 63) A0 A ch)/\Hid (FN G n A0 ch i 0)/\Hid (az W.heap.size W wr (PRE++(bI GB (bi G n (E0 G) (F0 G)).C A n++(l2++[ae w.heap.size (.cells #[tv,ov,sv,.slice pa np pc,.int .i64 G.start] 27 (0,0)),ae b38 (.cells #[.slice ko n kc,.slice no n nc] 38 (0,0))]))))) (fun _ t8 _ _ _ _ _ _ _ _ _ _ _ _ _ _=>n-(RowKit.intOf t8).toNat)
 case atStart=>exact⟨0,A0,false,Nat.zero_le _,rfl,rfl,HX0,HM0,HF0⟩
 case round =>
  clear HX0 HM0 HF0;obtain⟨i,A,ch,hin,rfl,rfl,HX,HM,HF⟩:=hrel;by_cases hli:i<n
  case neg =>
   have m1:¬ (i:Int)<(n:Int):=by omega
   obtain rfl:i=n:=by omega
   go_wp2_with fail;go_ret;exact⟨A,ch,rfl,HX.o,HM.o,Le HF.o⟩
  have m1:(i:Int)<(n:Int):=by omega
  have m0:(0:Int)<=(i:Int):=by omega
  obtain⟨g,c,q0,q1,hrow,hgF⟩:=HCE.o _ _ HF.o i hli;obtain⟨N,hN⟩:=ai (((bi G n (E0 G) (F0 G)).C i).length);have HN:=hid hN;have hNle:N<=1573:=by rw[<-hN];exact HCL.o i
  obtain⟨gi,hgi⟩:=ai (GB.getD i 0);rw[hN]at q0 q1;rw[hgi]at q1;have HGI:=hid hgi;obtain⟨wc,ec⟩:=ai (wr.alloc (.cells #[.slice (some ⟨g,0,none⟩) N c,.slice (some ⟨gi,0,none⟩) N N] 52));have nc2:wc.heap[wr.heap.size]?=some (.cells #[.slice (some ⟨g,0,none⟩) N c,.slice (some ⟨gi,0,none⟩) N N] 52 (0,0)):=dO ec;have hbc:aj wr wc:=dM ec;have hfc:=vG HF.o hbc nc2;obtain⟨b52,hb52⟩:=ai (wr.heap.size);rw[hb52]at hfc;have HFC:Hid (az W.heap.size W wc (PRE++(bI GB (bi G n (E0 G) (F0 G)).C A n++(l2++[ae w.heap.size (.cells #[tv,ov,sv,.slice pa np pc,.int .i64 G.start] 27 (0,0)),ae b38 (.cells #[.slice ko n kc,.slice no n nc] 38 (0,0)),ae b52 (.cells #[.slice (some ⟨g,0,none⟩) N c,.slice (some ⟨gi,0,none⟩) N N] 52 (0,0))])))):=hid hfc;have HGF:=hid hgF;clear hN hgi hrow hgF nc2 hbc hfc HF;go_wp2_with fail;try rw[hb52]
  clear q0 q1 ec hb52
  go_loopw [7,10,11,12,13,14,15,16,17,18,19,20,21] (fun t7 t10 t11 t12 t13 t14 t15 t16 t17 t18 t19 t20 t21 wr=>∃ (k:Nat) (A:Pl->Nat) (ch:Bool),k<=N/\t10=.int .i64 (k:Int)/\t7=.bool ch/\Hid (RX (dJ (bi G n (E0 G) (F0 G))) (places (bi G n (E0 G) (F0 G)) n) (0,(-1,0)) (aZ 63) A0 A ch)/\Hid (FN G n A0 ch i k)/\Hid (az W.heap.size W wr (PRE++(bI GB (bi G n (E0 G) (F0 G)).C A n++(l2++[ae w.heap.size (.cells #[tv,ov,sv,.slice pa np pc,.int .i64 G.start] 27 (0,0)),ae b38 (.cells #[.slice ko n kc,.slice no n nc] 38 (0,0)),ae b52 (.cells #[.slice (some ⟨g,0,none⟩) N c,.slice (some ⟨gi,0,none⟩) N N] 52 (0,0))]))))) (fun _ t10 _ _ _ _ _ _ _ _ _ _ _ _=>N-(RowKit.intOf t10).toNat)
  case atStart=>exact⟨0,A,ch,Nat.zero_le _,rfl,rfl,HX,HM,HFC⟩
  case round =>
   clear HX HM HFC;obtain⟨k,A,ch,hkN,rfl,rfl,HX,HM,HF⟩:=hrel;have z52:w.heap.size=w.heap.size:=rfl;have q0:ay wr b52 0 (.slice (some ⟨g,0,none⟩) N c):=ak (show wr.heap[b52]?=some (.cells #[.slice (some ⟨g,0,none⟩) N c,.slice (some ⟨gi,0,none⟩) N N] 52 (0,0))from jh HF.o (y:=ae b52 (.cells #[.slice (some ⟨g,0,none⟩) N c,.slice (some ⟨gi,0,none⟩) N N] 52 (0,0))) (by simp)) 0;clear z52;by_cases hlt:k<N
   case neg =>
    have j1:¬ (k:Int)<(N:Int):=(by omega);have HF9:Hid (az W.heap.size W wr (PRE++(bI GB (bi G n (E0 G) (F0 G)).C A n++(l2++[ae w.heap.size (.cells #[tv,ov,sv,.slice pa np pc,.int .i64 G.start] 27 (0,0)),ae b38 (.cells #[.slice ko n kc,.slice no n nc] 38 (0,0))])))):=hid (jT (m:=[ae w.heap.size (.cells #[tv,ov,sv,.slice pa np pc,.int .i64 G.start] 27 (0,0)),ae b38 (.cells #[.slice ko n kc,.slice no n nc] 38 (0,0))]) (m':=[ae b52 (.cells #[.slice (some ⟨g,0,none⟩) N c,.slice (some ⟨gi,0,none⟩) N N] 52 (0,0))]) HF.o);go_wp2_with fail;refine⟨⟨i+1,A,ch,by omega,by go_num,rfl,HX,hid (show FN G n A0 ch (i+1) 0 from fun h=>(HM.o h).row (by rw[HN.o];omega)),HF9⟩,?_⟩;simp[RowKit.intOf];omega
   have j1:(k:Int)<(N:Int):=by omega
   have j0:(0:Int)<=(k:Int):=by omega
   obtain⟨⟨xp,xd⟩,hx⟩:∃ x,((bi G n (E0 G) (F0 G)).C i)[k]?=some x:=⟨_,dH (by rw[HN.o];exact hlt)⟩;have hth:=aO.bW.1 ((aJ.cZ.iV.1 (List.mem_of_getElem? hx)).there);obtain⟨d,rfl⟩:∃ d:Nat,xd=(d:Int):=⟨xd.toNat,by have h:(0:Int)<=xd:=hth.2.2.1;omega⟩;have hd12:d<=12:=by
    have h1:=aO.right_le HVAL.o hth.1 hth.2.1;have h2:((d:Nat):Int)<=((ax G xp).length:Int):=hth.2.2.2;have h3:(ax G xp).length<=12:=h1;omega
   have hp0:-1<=xp:=hth.1;have hp1:xp<(G.prods.length:Int):=hth.2.1;have hrow:=HFZ.o _ _ HF.o g i HGF.o;have hxr:=hrow k (by rw[HN.o];exact hlt);have hxe:((bi G n (E0 G) (F0 G)).C i)[k]'(by rw[HN.o];exact hlt)=(xp,(d:Int)):=(List.getElem?_eq_some_iff.1 hx).2;rw[hxe]at hxr;have r0:=hxr.1;have r1:=hxr.2.1;have HXK:=hid hx;have HXC:=hid (List.mem_of_getElem? hx);obtain⟨wa,ea⟩:=ai (wr.alloc (.cells #[.int .i64 0,.int .i64 0] 110));have na:wa.heap[wr.heap.size]?=some (.cells #[.int .i64 0,.int .i64 0] 110 (0,0)):=dO ea;have hba:aj wr wa:=dM ea;have vc0:ay wa wr.heap.size 0 (.int .i64 0):=ak na 0;have vf0:=bY na 0;obtain⟨u1,ve0⟩:=ai (wa.setCell ⟨wr.heap.size,0,none⟩ (.int .i64 xp));have m1:u1.heap[wr.heap.size]?=some (.cells #[.int .i64 xp,.int .i64 0] 110 (0,0)):=dK ve0 na;have vc1:ay u1 wr.heap.size 1 (.int .i64 0):=ak m1 1;have vf1:=bY m1 1;obtain⟨u2,ve1⟩:=ai (u1.setCell ⟨wr.heap.size,1,none⟩ (.int .i64 (d:Int)));have m2:u2.heap[wr.heap.size]?=some (.cells #[.int .i64 xp,.int .i64 (d:Int)] 110 (0,0)):=dK ve1 m1;have hbu:aj wr u2:=by
    rw[<-ve1,<-ve0];exact(hba.setCell (bJ _) _).setCell (bJ _) _
   have hfx:=vG HF.o hbu m2;have KH:=qN (HGr.o.below (vG HF.o hbu m2).bel) (xp,(d:Int));unfold Am mg at KH;have KH:=hid KH;have hc0:=jh hfx (y:=ae w.heap.size (.cells #[tv,ov,sv,.slice pa np pc,.int .i64 G.start] 27 (0,0))) (by simp);obtain⟨c0,c1,c2,c3,c4⟩:=cells5 hc0;have y0:ay u2 wr.heap.size 0 (.int .i64 xp):=ak m2 0;have y1:ay u2 wr.heap.size 1 (.int .i64 (d:Int)):=ak m2 1;have HFX:=hid hfx;clear na m1 m2 hba hbu hfx hc0 hx hth hrow hxr hxe;go_wp2_with fail;refine KH.o.mono ?_;rintro e w6 ⟨rfl,hb6⟩;obtain⟨xb,hxb⟩:=ai (wr.heap.size);have hf6:=HFX.o.below hb6;rw[hxb]at hf6;try rw[hxb]
   have HF6:Hid (az W.heap.size W w6 (PRE++(bI GB (bi G n (E0 G) (F0 G)).C A n++(l2++[ae w.heap.size (.cells #[tv,ov,sv,.slice pa np pc,.int .i64 G.start] 27 (0,0)),ae b38 (.cells #[.slice ko n kc,.slice no n nc] 38 (0,0)),ae b52 (.cells #[.slice (some ⟨g,0,none⟩) N c,.slice (some ⟨gi,0,none⟩) N N] 52 (0,0)),ae xb (.cells #[.int .i64 xp,.int .i64 (d:Int)] 110 (0,0))])))):=hid hf6;clear vc0 vf0 vc1 vf1 ve0 ve1 ea r0 r1 KH hb6 hf6 c0 c1 c2 c3 c4 y0 y1 q0 HFX HF hxb;have hbe:jZ G (xp,(d:Int))=aY G (xp,(d:Int)):=by unfold jZ;rw[if_pos HVAL.o]
   rw[hbe];cases hbx:aY G (xp,(d:Int))with
   | none =>
    simp only[Option.getD_none,Option.isSome_none];have HF9:Hid (az W.heap.size W w6 (PRE++(bI GB (bi G n (E0 G) (F0 G)).C A n++(l2++[ae w.heap.size (.cells #[tv,ov,sv,.slice pa np pc,.int .i64 G.start] 27 (0,0)),ae b38 (.cells #[.slice ko n kc,.slice no n nc] 38 (0,0)),ae b52 (.cells #[.slice (some ⟨g,0,none⟩) N c,.slice (some ⟨gi,0,none⟩) N N] 52 (0,0))])))):=hid (jT (m:=[ae w.heap.size (.cells #[tv,ov,sv,.slice pa np pc,.int .i64 G.start] 27 (0,0)),ae b38 (.cells #[.slice ko n kc,.slice no n nc] 38 (0,0)),ae b52 (.cells #[.slice (some ⟨g,0,none⟩) N c,.slice (some ⟨gi,0,none⟩) N N] 52 (0,0))]) (m':=[ae xb (.cells #[.int .i64 xp,.int .i64 (d:Int)] 110 (0,0))]) HF6.o);have HM9:=hid (show FN G n A0 ch i (k+1)from fun h=>(HM.o h).next HXK.o (aJ.cZ.D5 hbx));go_wp2_with fail;refine⟨⟨k+1,A,ch,by omega,by go_num,rfl,HX,HM9,HF9⟩,?_⟩;simp[RowKit.intOf];omega
   | some s =>
    simp only[Option.getD_some,Option.isSome_some];have hr1:(ax G xp)[d]?=some s:=by
     unfold aO.aY at hbx;rw[if_pos (aO.fA (by unfold aO.aY;exact hbx))]at hbx;simpa using hbx
    have HR1:=hid hr1;have hdl:d+1<=(ax G xp).length:=(List.getElem?_eq_some_iff.1 hr1).1;obtain⟨q,g1,g2,g3,g4,g5⟩:=HGB.o i (xp,(d:Int)) s hli HXC.o hbx;have HG1:=hid g1;have HG2:=hid g2;have HBX:=hid hbx;clear hr1 g1 g2 g3 g5 hbe hbx;have hc0:=jh HF6.o (y:=ae w.heap.size (.cells #[tv,ov,sv,.slice pa np pc,.int .i64 G.start] 27 (0,0))) (by simp);obtain⟨c0,c1,c2,c3,c4⟩:=cells5 hc0;have hxbk:=jh HF6.o (y:=ae xb (.cells #[.int .i64 xp,.int .i64 (d:Int)] 110 (0,0))) (by simp);have y0:ay w6 xb 0 (.int .i64 xp):=ak hxbk 0;have KR:=hid (Em (HGr.o.below HF6.o.bel) HVAL.o xp hp0 hp1);clear hc0 hxbk;go_wp2_with fail;refine KR.o.mono ?_;rintro e w7 ⟨ro,rc2,rfl,hrc,hri,hb7⟩;have HF7:Hid (az W.heap.size W w7 (PRE++(bI GB (bi G n (E0 G) (F0 G)).C A n++(l2++[ae w.heap.size (.cells #[tv,ov,sv,.slice pa np pc,.int .i64 G.start] 27 (0,0)),ae b38 (.cells #[.slice ko n kc,.slice no n nc] 38 (0,0)),ae b52 (.cells #[.slice (some ⟨g,0,none⟩) N c,.slice (some ⟨gi,0,none⟩) N N] 52 (0,0)),ae xb (.cells #[.int .i64 xp,.int .i64 (d:Int)] 110 (0,0))])))):=hid (HF6.o.below hb7);obtain⟨rl,hrl⟩:=ai ((ax G xp).length);rw[hrl]at hrc hri hdl ⊢;have HRL:=hid hrl;obtain⟨rb2,rof,rfl⟩:∃ rb rof,ro=some ⟨rb,rof,none⟩:=by
     obtain⟨⟨a,c,e1,_,e2⟩,_⟩:=hri;obtain⟨b,off,e3,_⟩:=e2 (by omega);injection e1 with h1 h2 h3;exact⟨b,off,h1.trans e3⟩
    have HRI:=hid hri;have HSR:=hid (hri.2 s (List.mem_of_getElem? HR1.o));have hb52:=jh HF7.o (y:=ae b52 (.cells #[.slice (some ⟨g,0,none⟩) N c,.slice (some ⟨gi,0,none⟩) N N] 52 (0,0))) (by simp);have t0:ay w7 b52 0 (.slice (some ⟨g,0,none⟩) N c):=ak hb52 0;have t1:ay w7 b52 1 (.slice (some ⟨gi,0,none⟩) N N):=ak hb52 1;have hci:=iD HF7.o hli HXK.o;rw[HGI.o]at hci;obtain⟨s0,hs0⟩:=ai (A (i,(xp,(d:Int))));have HS0:=hid hs0;have hs0t:s0<top:=by rw[<-hs0];exact HX.o.base.low _
    rw[hs0]at hci;have t2:ay w7 gi k (uv s0):=hci.1;clear KR hri hb7 c0 c1 c2 c3 c4 y0 hb52 hci hs0 hrl HF6;by_cases hs:s<0
    case neg =>
     have z0:decide (s<0)=false:=dA hs;have z1:(0:Int)<(N:Int):=(by omega);have HMQ:=hid (show ch=false->jX (bi G n (E0 G) (F0 G)) A0 i k/\(s<0->∀ q:Nat,q<(bi G n (E0 G) (F0 G)).G.prods.length->bg (bi G n (E0 G) (F0 G)).G q=-1-s->fM (aJ.ofRow (bi G n (E0 G) (F0 G)).G.terms.length (bi G n (E0 G) (F0 G)).E (bi G n (E0 G) (F0 G)).F (aJ.cZ.dV (bi G n (E0 G) (F0 G)).G (xp,(d:Int))) (A0 (i,(xp,(d:Int))))) (A0 (i,((q:Int),0))))from fun h=>⟨HM.o h,fun h2=>absurd h2 hs⟩);go_wp2_with fail;clear t1 t2
     go_loopw [7,16] (fun t7 t16 wr=>t7=.bool ch/\t16=.int .i64 0/\w7=wr) (fun _ _ _=>0)
     case atStart=>exact⟨rfl,rfl,rfl⟩
     case round =>
      obtain⟨rfl,rfl,rfl⟩:=hrel
      as_aux_lemma =>
       have hc0:=jh HF7.o (y:=ae w.heap.size (.cells #[tv,ov,sv,.slice pa np pc,.int .i64 G.start] 27 (0,0))) (by simp);obtain⟨c0,c1,c2,c3,c4⟩:=cells5 hc0;have ha0:=jh HF7.o (y:=ae b38 (.cells #[.slice ko n kc,.slice no n nc] 38 (0,0))) (by simp);have a0:ay w7 b38 0 (.slice ko n kc):=ak ha0 0;have a1:ay w7 b38 1 (.slice no n nc):=ak ha0 1;have KG:=xu (HGr.o.below HF7.o.bel) (HAV.o.below HF7.o.bel) HNX.o (i:Int) s HSR.o.1 HSR.o.2;rw[HG1.o]at KG;have KG:=hid KG;clear hc0 ha0;go_wp2_with fail;refine KG.o.mono ?_;rintro e wg ⟨rfl,hbg⟩;have HFg:Hid (az W.heap.size W wg (PRE++(bI GB (bi G n (E0 G) (F0 G)).C A n++(l2++[ae w.heap.size (.cells #[tv,ov,sv,.slice pa np pc,.int .i64 G.start] 27 (0,0)),ae b38 (.cells #[.slice ko n kc,.slice no n nc] 38 (0,0)),ae b52 (.cells #[.slice (some ⟨g,0,none⟩) N c,.slice (some ⟨gi,0,none⟩) N N] 52 (0,0)),ae xb (.cells #[.int .i64 xp,.int .i64 (d:Int)] 110 (0,0))])))):=hid (HF7.o.below hbg);clear KG hbg c0 c1 c2 c3 c4 a0 a1;try clear t0
       obtain⟨gz,cz,t0,t1,hrz,hgz⟩:=HCE.o _ _ HFg.o q g4;obtain⟨N2,hN2⟩:=ai (((bi G n (E0 G) (F0 G)).C q).length);have hN2le:N2<=1573:=by rw[<-hN2];exact HCL.o q
       obtain⟨gq,hgq⟩:=ai (GB.getD q 0);have HGQ:=hid hgq;rw[hN2]at t0 t1;rw[hgq]at t1;have hgo:=HCX.o.lL i (xp,(d:Int)) s hli HXC.o HBX.o;rw[HG2.o]at hgo;obtain⟨m,hm⟩:=List.mem_iff_getElem?.1 hgo.2;have hm:((bi G n (E0 G) (F0 G)).C q)[m]?=some (xp,(d:Int)+1):=hm;have hml:m<N2:=by rw[<-hN2];exact(List.getElem?_eq_some_iff.1 hm).1
       have HFD:=hid (show aS wg (.slice (some ⟨gz,0,none⟩) N2 cz) ((bi G n (E0 G) (F0 G)).C q)from by
        rw[<-hN2];exact eQ hrz (by rw[hN2];omega))
       have KF:=hid (show ∀ w',aj wg w'->Calls Tryz.prog 48 #[.slice (some ⟨gz,0,none⟩) N2 cz,.agg #[.int .i64 xp,.int .i64 ((d:Int)+1)]] w' fun e w''=>e=.returned (.int .i64 (m:Int))/\aj w' w'' from fun w' hC=>by
        have:=oN (xp,(d:Int)+1) (HFD.o.below hC) (by rw[hN2];omega);rw[aJ.cZ.ni (HND.o q) hm]at this;exact this)
       have hbxx:=jh HFg.o (y:=ae xb (.cells #[.int .i64 xp,.int .i64 (d:Int)] 110 (0,0))) (by simp);have hb52:=jh HFg.o (y:=ae b52 (.cells #[.slice (some ⟨g,0,none⟩) N c,.slice (some ⟨gi,0,none⟩) N N] 52 (0,0))) (by simp);have hci:=iD HFg.o hli HXK.o;have hcq:=iD HFg.o g4 hm;rw[HGI.o]at hci;rw[hgq]at hcq;obtain⟨a2,ha2⟩:=ai (A (q,(xp,(d:Int)+1)));obtain⟨s1,hs1⟩:=ai (A (i,(xp,(d:Int))));rw[hs1]at hci;rw[ha2]at hcq;have HA2:=hid ha2;have HS1:=hid hs1;have ha2t:a2<top:=by rw[<-ha2];exact HX.o.base.low _
       have hs1t:s1<top:=by rw[<-hs1];exact HX.o.base.low _
       have Y0:=hid (show ∀ w',aj wg w'->ay w' rb (rf+q*2) (.slice (some ⟨gz,0,none⟩) N2 cz)from fun w' hC=>cell_below hC t0);have Y1:=hid (show ∀ w',aj wg w'->ay w' xb 0 (.int .i64 xp)from fun w' hC=>cell_below hC (ak hbxx 0));have Y2:=hid (show ∀ w',aj wg w'->ay w' xb 1 (.int .i64 (d:Int))from fun w' hC=>cell_below hC (ak hbxx 1));have Y3:=hid (show ∀ w',aj wg w'->ay w' rb (rf+q*2+1) (.slice (some ⟨gq,0,none⟩) N2 N2)from fun w' hC=>cell_below hC t1);have Y4:=hid (show ∀ w',aj wg w'->ay w' b52 1 (.slice (some ⟨gi,0,none⟩) N N)from fun w' hC=>cell_below hC (ak hb52 1));have Y5:=hid (show ∀ w',aj wg w'->ay w' gi k (uv s1)from fun w' hC=>cell_below hC hci.1);have Y6:=hid (show ∀ w',aj wg w'->ay w' gq m (uv a2)from fun w' hC=>cell_below hC hcq.1);have HGM:=hid hm;have HGG:=hid (And.intro hgo.1 hgo.2);have hwd:IntKind.i64.wrap ((d:Int)+1)=(d:Int)+1:=wrap_small (by omega) (by omega);have q1':(q:Int)<(n:Int):=(by omega);have q0':(0:Int)<=(q:Int):=(by omega);have w1':(m:Int)<(N2:Int):=(by omega);have w0':(0:Int)<=(m:Int):=(by omega);clear t0 t1 hrz hgz hN2 hgq hgo hm HFD hbxx hb52 hci hcq ha2 hs1;go_wp2_with fail;refine ah (by kernel_rfl) (by kernel_rfl) ?_;iterate 13
        with_reducible refine BigFrame.wpQuiet_want (by kernel_rfl) (fun K hK=>?_)
        apply Exists.intro;refine⟨fun w' hC=>?_,hK _ ?_⟩
        ·have f0':=Y0.o w' hC;have f1':=Y1.o w' hC;have f2':=Y2.o w' hC;unfold Oper.quietAt;go_simp
         first | with_reducible rfl | with_reducible exact bD hC (bJ _) (KF.o w' hC)
        clear hK K;try simp only[Act.put,bP,bQ,bK,hwd]
       refine wpQuiet_nil ?_;intro wh hbh;have HFh:Hid (az W.heap.size W wh (PRE++(bI GB (bi G n (E0 G) (F0 G)).C A n++(l2++[ae w.heap.size (.cells #[tv,ov,sv,.slice pa np pc,.int .i64 G.start] 27 (0,0)),ae b38 (.cells #[.slice ko n kc,.slice no n nc] 38 (0,0)),ae b52 (.cells #[.slice (some ⟨g,0,none⟩) N c,.slice (some ⟨gi,0,none⟩) N N] 52 (0,0)),ae xb (.cells #[.int .i64 xp,.int .i64 (d:Int)] 110 (0,0))])))):=hid (HFg.o.below hbh);have HBH:=hid hbh;clear hbh hwd KF;go_wp2_with fail;have KU:=hid (show ∀ w',aj wh w'->Calls Tryz.prog 94 #[uv a2,uv s1] w' fun e w''=>e=.returned (uv (a2 ||| s1))/\aj w' w'' from fun w' hC=>aJ.nH a2 s1 ha2t hs1t w');have X3:=hid (show ∀ w',aj wh w'->ay w' rb (rf+q*2+1) (.slice (some ⟨gq,0,none⟩) N2 N2)from fun w' hC=>Y3.o w' (HBH.o.trans (hC.mono HBH.o.size)));have X4:=hid (show ∀ w',aj wh w'->ay w' b52 1 (.slice (some ⟨gi,0,none⟩) N N)from fun w' hC=>Y4.o w' (HBH.o.trans (hC.mono HBH.o.size)));have X5:=hid (show ∀ w',aj wh w'->ay w' gi k (uv s1)from fun w' hC=>Y5.o w' (HBH.o.trans (hC.mono HBH.o.size)));have X6:=hid (show ∀ w',aj wh w'->ay w' gq m (uv a2)from fun w' hC=>Y6.o w' (HBH.o.trans (hC.mono HBH.o.size)));refine ah (by kernel_rfl) (by kernel_rfl) ?_;iterate 15
        with_reducible refine BigFrame.wpQuiet_want (by kernel_rfl) (fun K hK=>?_)
        apply Exists.intro;refine⟨fun w' hC=>?_,hK _ ?_⟩
        ·have f0':=X3.o w' hC;have f1':=X4.o w' hC;have f2':=X5.o w' hC;have f3':=X6.o w' hC;unfold Oper.quietAt;go_simp
         first | with_reducible rfl | with_reducible exact bD hC (bJ _) (KU.o w' hC)
        clear hK K;try simp only[Act.put,bP,bQ,bK]
       refine wpQuiet_nil ?_;intro wi hbi;have HFi:Hid (az W.heap.size W wi (PRE++(bI GB (bi G n (E0 G) (F0 G)).C A n++(l2++[ae w.heap.size (.cells #[tv,ov,sv,.slice pa np pc,.int .i64 G.start] 27 (0,0)),ae b38 (.cells #[.slice ko n kc,.slice no n nc] 38 (0,0)),ae b52 (.cells #[.slice (some ⟨g,0,none⟩) N c,.slice (some ⟨gi,0,none⟩) N N] 52 (0,0)),ae xb (.cells #[.int .i64 xp,.int .i64 (d:Int)] 110 (0,0))])))):=hid (HFh.o.below hbi);have t3:=X3.o wi hbi;have t6:=X6.o wi hbi;have hfrz:wi.frozen? ⟨gq,m,none⟩=false:=by
        have:=(iD HFi.o g4 HGM.o).2;rw[HGQ.o]at this;exact this
       obtain⟨uu,huu⟩:=ai (a2 ||| s1);have HUU:=hid huu;obtain⟨wS,eS⟩:=ai (wi.setCell ⟨gq,m,none⟩ (uv uu));have HFS:Hid (az W.heap.size W wS (PRE++(bI GB (bi G n (E0 G) (F0 G)).C (iI A (q,(xp,(d:Int)+1)) s1) n++(l2++[ae w.heap.size (.cells #[tv,ov,sv,.slice pa np pc,.int .i64 G.start] 27 (0,0)),ae b38 (.cells #[.slice ko n kc,.slice no n nc] 38 (0,0)),ae b52 (.cells #[.slice (some ⟨g,0,none⟩) N c,.slice (some ⟨gi,0,none⟩) N N] 52 (0,0)),ae xb (.cells #[.int .i64 xp,.int .i64 (d:Int)] 110 (0,0))])))):=hid (by
        have:=BB HFi.o s1 g4 (HND.o q) HGM.o;rw[HGQ.o,HA2.o,huu,eS]at this;exact this)
       rw[huu];have HXN:=hid ((HX.o).upd (t:=(q,(xp,(d:Int)+1))) (v:=s1) (aJ.cZ.mem_places.2 ⟨g4,HGG.o.2⟩) hs1t (fun M hM h0=>by
        have h1:=(HX.o).base.snd M hM h0 (i,(xp,(d:Int))) (aJ.cZ.mem_places.2 ⟨hli,HXC.o⟩);rw[HS1.o]at h1;have h2:=aJ.cZ.wC hM (aJ.cZ.mem_places.2 ⟨hli,HXC.o⟩) HBX.o;rw[HG2.o]at h2;exact aJ.dG h1 h2))
       have HMN:=hid (show FN G n A0 (ch || (a2 ||| s1 != a2)) i (k+1)from fun h=>by
        obtain⟨hc,hsub⟩:=aJ.cZ.xU h;have hst:=(HX.o).stay hc;obtain⟨hmu,hq⟩:=HMQ.o hc;refine hmu.next HXK.o (aJ.cZ.Ac HBX.o ?_ hq);rw[HG2.o,<-hst,HS1.o,HA2.o];exact hsub)
       rw[HA2.o,huu]at HXN;rw[huu]at HMN;clear hbi huu Y0 Y1 Y2 Y3 Y4 Y5 Y6 X3 X4 X5 X6 KU HBH;by_cases heq:uu=a2
       ·subst heq;cases ch
        ·go_wp2_with fail;refine⟨⟨k+1,_,false,by omega,by go_num,rfl,hid (by simpa using HXN.o),hid (by simpa using HMN.o),hid (jT (m:=[ae w.heap.size (.cells #[tv,ov,sv,.slice pa np pc,.int .i64 G.start] 27 (0,0)),ae b38 (.cells #[.slice ko n kc,.slice no n nc] 38 (0,0)),ae b52 (.cells #[.slice (some ⟨g,0,none⟩) N c,.slice (some ⟨gi,0,none⟩) N N] 52 (0,0))]) (m':=[ae xb (.cells #[.int .i64 xp,.int .i64 (d:Int)] 110 (0,0))]) HFS.o)⟩,?_⟩;simp[RowKit.intOf];omega
        ·go_wp2_with fail;refine⟨⟨k+1,_,true,by omega,by go_num,rfl,hid (by simpa using HXN.o),hid (by simpa using HMN.o),hid (jT (m:=[ae w.heap.size (.cells #[tv,ov,sv,.slice pa np pc,.int .i64 G.start] 27 (0,0)),ae b38 (.cells #[.slice ko n kc,.slice no n nc] 38 (0,0)),ae b52 (.cells #[.slice (some ⟨g,0,none⟩) N c,.slice (some ⟨gi,0,none⟩) N N] 52 (0,0))]) (m':=[ae xb (.cells #[.int .i64 xp,.int .i64 (d:Int)] 110 (0,0))]) HFS.o)⟩,?_⟩;simp[RowKit.intOf];omega
       ·have zn:(((uu:Nat):Int) != ((a2:Nat):Int))=true:=by
         rw[bne_iff_ne];omega
        have hne:(uu != a2)=true:=by rw[bne_iff_ne];exact heq
        rw[hne]at HXN HMN;clear hne;cases ch
        ·go_wp2_with fail;refine⟨⟨k+1,_,true,by omega,by go_num,rfl,hid (by simpa using HXN.o),hid (by simpa using HMN.o),hid (jT (m:=[ae w.heap.size (.cells #[tv,ov,sv,.slice pa np pc,.int .i64 G.start] 27 (0,0)),ae b38 (.cells #[.slice ko n kc,.slice no n nc] 38 (0,0)),ae b52 (.cells #[.slice (some ⟨g,0,none⟩) N c,.slice (some ⟨gi,0,none⟩) N N] 52 (0,0))]) (m':=[ae xb (.cells #[.int .i64 xp,.int .i64 (d:Int)] 110 (0,0))]) HFS.o)⟩,?_⟩;simp[RowKit.intOf];omega
        ·go_wp2_with fail;refine⟨⟨k+1,_,true,by omega,by go_num,rfl,hid (by simpa using HXN.o),hid (by simpa using HMN.o),hid (jT (m:=[ae w.heap.size (.cells #[tv,ov,sv,.slice pa np pc,.int .i64 G.start] 27 (0,0)),ae b38 (.cells #[.slice ko n kc,.slice no n nc] 38 (0,0)),ae b52 (.cells #[.slice (some ⟨g,0,none⟩) N c,.slice (some ⟨gi,0,none⟩) N N] 52 (0,0))]) (m':=[ae xb (.cells #[.int .i64 xp,.int .i64 (d:Int)] 110 (0,0))]) HFS.o)⟩,?_⟩;simp[RowKit.intOf];omega
    have z0:decide (s<0)=true:=eP hs;have hs61:-61<=s:=by
     obtain⟨kk,e1,_⟩:=zi HVAL.o _ s HBX.o;have:=dR HVAL.o;unfold ig at e1;rw[if_neg (by omega)]at e1;split at e1
     ·omega
     ·cases e1
    have hbxx:=jh HF7.o (y:=ae xb (.cells #[.int .i64 xp,.int .i64 (d:Int)] 110 (0,0))) (by simp);have hc0:=jh HF7.o (y:=ae w.heap.size (.cells #[tv,ov,sv,.slice pa np pc,.int .i64 G.start] 27 (0,0))) (by simp);obtain⟨c0,c1,c2,c3,c4⟩:=cells5 hc0;have Y0:=hid (show ∀ w',aj w7 w'->ay w' w.heap.size 0 tv from fun w' hC=>cell_below hC c0);have Y1:=hid (show ∀ w',aj w7 w'->ay w' w.heap.size 1 ov from fun w' hC=>cell_below hC c1);have Y2:=hid (show ∀ w',aj w7 w'->ay w' w.heap.size 2 sv from fun w' hC=>cell_below hC c2);have Y3:=hid (show ∀ w',aj w7 w'->ay w' w.heap.size 3 (.slice pa np pc)from fun w' hC=>cell_below hC c3);have Y4:=hid (show ∀ w',aj w7 w'->ay w' w.heap.size 4 (.int .i64 G.start)from fun w' hC=>cell_below hC c4);have Y5:=hid (show ∀ w',aj w7 w'->ay w' xb 1 (.int .i64 (d:Int))from fun w' hC=>cell_below hC (ak hbxx 1));have Y6:=hid (show ∀ w',aj w7 w'->ay w' b52 1 (.slice (some ⟨gi,0,none⟩) N N)from fun w' hC=>cell_below hC t1);have Y7:=hid (show ∀ w',aj w7 w'->ay w' gi k (uv s0)from fun w' hC=>cell_below hC t2);have hcut:dw w7 (cutV rb2 rof rl rc2 (d+1)) ((ax G xp).drop (d+1)):=by
     refine Fg (fun i hi=>?_) HRL.o HRI.o.2 (by have:=aO.right_le HVAL.o hp0 hp1;rw[HRL.o]at this;omega) hrc (d+1);obtain⟨a,c,e1,_,e2⟩:=HRI.o.1;obtain⟨b,off,e3,e4⟩:=e2 (by rw[HRL.o];omega);subst e3;injection e1 with e1 _ _;injection e1 with e1;injection e1 with e1 e5;subst e1;subst e5;exact e4 i hi
    obtain⟨mv,hmv⟩:=ai (aJ.ofRow G.terms.length (E0 G) (F0 G) ((ax G xp).drop (d+1)) s0);have hmvt:mv<top:=by rw[<-hmv];exact aJ.iJ _ _ (aJ.fC HVAL.o).2.2 _ hs0t
    have KO:=hid (show ∀ w',aj w7 w'->Calls Tryz.prog 93 #[.agg #[tv,ov,sv,.slice pa np pc,.int .i64 G.start],cutV rb2 rof rl rc2 (d+1),uv s0] w' fun e w''=>e=.returned (uv mv)/\aj w' w'' from fun w' hC=>by
     refine(aJ.FH (HGA.o.mono ((HF7.o.below hC).bel)) HVAL.o (hcut.mono hC) (b:=s0) hs0t).mono ?_;rintro e w'' ⟨E,F,rfl,hE,hF,hb⟩;obtain rfl:E=E0 G:=hE.same (aJ.nD HVAL.o);obtain rfl:F=F0 G:=hF.JD (aJ.fC HVAL.o) (aJ.ut _ _ _ _);exact⟨by rw[<-hmv],hb⟩)
    have HRUN:=hid (fun w':World=>AQ rb2 rof rl rc2 d hdl w');have hw3:IntKind.i64.wrap ((d:Int)+1)=(d:Int)+1:=wrap_small (by omega) (by omega);obtain⟨cv,hcv⟩:=ai (cutV rb2 rof rl rc2 (d+1));rw[hcv]at KO HRUN;have HMV:=hid hmv;have HMP0:=hid (show MetP G n A0 ch i k xp d s s0 mv 0 from fun h=>by
     have e:=HX.o.stay h;exact⟨HM.o h,by rw[<-e];exact HS0.o.symm,fun p' y hp=>absurd hp (Nat.not_lt_zero p')⟩)
    clear hbxx hc0 c0 c1 c2 c3 c4 hcut hmv hcv;go_wp2_with fail;clear t1 t2;refine ah (by kernel_rfl) (by kernel_rfl) ?_;iterate 5
     with_reducible refine BigFrame.wpQuiet_want (by kernel_rfl) (fun K hK=>?_)
     apply Exists.intro;refine⟨fun w' hC=>?_,hK _ ?_⟩
     ·have f0':=Y0.o w' hC;have f1':=Y1.o w' hC;have f2':=Y2.o w' hC;have f3':=Y3.o w' hC;have f4':=Y4.o w' hC;have f5':=Y5.o w' hC;have f6':=Y6.o w' hC;have f7':=Y7.o w' hC;unfold Oper.quietAt;go_simp
      first | with_reducible rfl | done
     clear hK K;try simp only[Act.put,bP,bQ,bK,hw3]
    with_reducible refine BigFrame.wpQuiet_want (by kernel_rfl) (fun K hK=>?_)
    apply Exists.intro;refine⟨fun w' hC=>?_,hK _ ?_⟩
    ·unfold Oper.quietAt;rw[xG rfl rfl rfl (by kernel_rfl) (HRUN.o w')];exact⟨rfl,rfl⟩
    clear hK K;try simp only[Act.put,bP,bQ,bK,hw3]
    iterate 7
     with_reducible refine BigFrame.wpQuiet_want (by kernel_rfl) (fun K hK=>?_)
     apply Exists.intro;refine⟨fun w' hC=>?_,hK _ ?_⟩
     ·have f0':=Y0.o w' hC;have f1':=Y1.o w' hC;have f2':=Y2.o w' hC;have f3':=Y3.o w' hC;have f4':=Y4.o w' hC;have f5':=Y5.o w' hC;have f6':=Y6.o w' hC;have f7':=Y7.o w' hC;unfold Oper.quietAt;go_simp
      first | with_reducible rfl | with_reducible exact bD hC (bJ _) (KO.o w' hC)
     clear hK K;try simp only[Act.put,bP,bQ,bK,hw3]
    refine wpQuiet_nil ?_;intro w8 hb8;have HF8:Hid (az W.heap.size W w8 (PRE++(bI GB (bi G n (E0 G) (F0 G)).C A n++(l2++[ae w.heap.size (.cells #[tv,ov,sv,.slice pa np pc,.int .i64 G.start] 27 (0,0)),ae b38 (.cells #[.slice ko n kc,.slice no n nc] 38 (0,0)),ae b52 (.cells #[.slice (some ⟨g,0,none⟩) N c,.slice (some ⟨gi,0,none⟩) N N] 52 (0,0)),ae xb (.cells #[.int .i64 xp,.int .i64 (d:Int)] 110 (0,0))])))):=hid (HF7.o.below hb8);clear hb8 hw3 KO HRUN Y0 Y1 Y2 Y3 Y4 Y5 Y6 Y7 HF7 t0 HM;go_wp2_with fail
    go_loopw [7,16,17,18] (fun t7 t16 t17 t18 wr=>∃ (p:Nat) (A:Pl->Nat) (ch:Bool),p<=N/\t16=.int .i64 (p:Int)/\t7=.bool ch/\Hid (RX (dJ (bi G n (E0 G) (F0 G))) (places (bi G n (E0 G) (F0 G)) n) (0,(-1,0)) (aZ 63) A0 A ch)/\Hid (MetP G n A0 ch i k xp d s s0 mv p)/\Hid (az W.heap.size W wr (PRE++(bI GB (bi G n (E0 G) (F0 G)).C A n++(l2++[ae w.heap.size (.cells #[tv,ov,sv,.slice pa np pc,.int .i64 G.start] 27 (0,0)),ae b38 (.cells #[.slice ko n kc,.slice no n nc] 38 (0,0)),ae b52 (.cells #[.slice (some ⟨g,0,none⟩) N c,.slice (some ⟨gi,0,none⟩) N N] 52 (0,0)),ae xb (.cells #[.int .i64 xp,.int .i64 (d:Int)] 110 (0,0))]))))) (fun _ t16 _ _ _=>N-(RowKit.intOf t16).toNat)
    case atStart=>exact⟨0,A,ch,Nat.zero_le _,rfl,rfl,HX,HMP0,HF8⟩
    case round =>
     obtain⟨hSN,hS0⟩:(∀ M:Pl->Nat,aJ.cZ.lg (dJ (bi G n (E0 G) (F0 G))) (places (bi G n (E0 G) (F0 G)) n) M->fM (aZ 63) (M (0,(-1,0)))->fM s0 (M (i,(xp,(d:Int)))))/\True:=⟨fun M hM h0=>by
      have:=HX.o.base.snd M hM h0 (i,(xp,(d:Int))) (aJ.cZ.mem_places.2 ⟨hli,HXC.o⟩);rw[HS0.o]at this;exact this,trivial⟩
     have HSN:=hid hSN;clear hSN hS0 HX HMP0 HF8 HS0;obtain⟨p,A,ch,hpN,rfl,rfl,HX,HMP,HF⟩:=hrel;have hb52:=jh HF.o (y:=ae b52 (.cells #[.slice (some ⟨g,0,none⟩) N c,.slice (some ⟨gi,0,none⟩) N N] 52 (0,0))) (by simp);have t0:ay wr b52 0 (.slice (some ⟨g,0,none⟩) N c):=ak hb52 0;have t1:ay wr b52 1 (.slice (some ⟨gi,0,none⟩) N N):=ak hb52 1;clear hb52;by_cases hpl:p<N
     case neg =>
      have z1:¬ (p:Int)<(N:Int):=(by omega);have HMQ:=hid (show ch=false->jX (bi G n (E0 G) (F0 G)) A0 i k/\(s<0->∀ q:Nat,q<(bi G n (E0 G) (F0 G)).G.prods.length->bg (bi G n (E0 G) (F0 G)).G q=-1-s->fM (aJ.ofRow (bi G n (E0 G) (F0 G)).G.terms.length (bi G n (E0 G) (F0 G)).E (bi G n (E0 G) (F0 G)).F (aJ.cZ.dV (bi G n (E0 G) (F0 G)).G (xp,(d:Int))) (A0 (i,(xp,(d:Int))))) (A0 (i,((q:Int),0))))from fun h=>by
       obtain⟨h1,h2,h3⟩:=HMP.o h;refine⟨h1,fun _ q hq hsq=>?_⟩;have hin:=HCX.o.more i (xp,(d:Int)) s q hli HXC.o HBX.o hs hq hsq;obtain⟨p',hp'⟩:=List.mem_iff_getElem?.1 hin;have:=h3 p' q (by have:=(List.getElem?_eq_some_iff.1 hp').1;rw[HN.o]at this;omega) hp' hsq;rw[<-HMV.o,h2]at this;exact this)
      clear t1
      as_aux_lemma =>
       have hc0:=jh HF.o (y:=ae w.heap.size (.cells #[tv,ov,sv,.slice pa np pc,.int .i64 G.start] 27 (0,0))) (by simp);obtain⟨c0,c1,c2,c3,c4⟩:=cells5 hc0;have ha0:=jh HF.o (y:=ae b38 (.cells #[.slice ko n kc,.slice no n nc] 38 (0,0))) (by simp);have a0:ay wr b38 0 (.slice ko n kc):=ak ha0 0;have a1:ay wr b38 1 (.slice no n nc):=ak ha0 1;have KG:=xu (HGr.o.below HF.o.bel) (HAV.o.below HF.o.bel) HNX.o (i:Int) s HSR.o.1 HSR.o.2;rw[HG1.o]at KG;have KG:=hid KG;clear hc0 ha0;go_wp2_with fail;refine KG.o.mono ?_;rintro e wg ⟨rfl,hbg⟩;have HFg:Hid (az W.heap.size W wg (PRE++(bI GB (bi G n (E0 G) (F0 G)).C A n++(l2++[ae w.heap.size (.cells #[tv,ov,sv,.slice pa np pc,.int .i64 G.start] 27 (0,0)),ae b38 (.cells #[.slice ko n kc,.slice no n nc] 38 (0,0)),ae b52 (.cells #[.slice (some ⟨g,0,none⟩) N c,.slice (some ⟨gi,0,none⟩) N N] 52 (0,0)),ae xb (.cells #[.int .i64 xp,.int .i64 (d:Int)] 110 (0,0))])))):=hid (HF.o.below hbg);clear KG hbg c0 c1 c2 c3 c4 a0 a1;try clear t0
       obtain⟨gz,cz,t0,t1,hrz,hgz⟩:=HCE.o _ _ HFg.o q g4;obtain⟨N2,hN2⟩:=ai (((bi G n (E0 G) (F0 G)).C q).length);have hN2le:N2<=1573:=by rw[<-hN2];exact HCL.o q
       obtain⟨gq,hgq⟩:=ai (GB.getD q 0);have HGQ:=hid hgq;rw[hN2]at t0 t1;rw[hgq]at t1;have hgo:=HCX.o.lL i (xp,(d:Int)) s hli HXC.o HBX.o;rw[HG2.o]at hgo;obtain⟨m,hm⟩:=List.mem_iff_getElem?.1 hgo.2;have hm:((bi G n (E0 G) (F0 G)).C q)[m]?=some (xp,(d:Int)+1):=hm;have hml:m<N2:=by rw[<-hN2];exact(List.getElem?_eq_some_iff.1 hm).1
       have HFD:=hid (show aS wg (.slice (some ⟨gz,0,none⟩) N2 cz) ((bi G n (E0 G) (F0 G)).C q)from by
        rw[<-hN2];exact eQ hrz (by rw[hN2];omega))
       have KF:=hid (show ∀ w',aj wg w'->Calls Tryz.prog 48 #[.slice (some ⟨gz,0,none⟩) N2 cz,.agg #[.int .i64 xp,.int .i64 ((d:Int)+1)]] w' fun e w''=>e=.returned (.int .i64 (m:Int))/\aj w' w'' from fun w' hC=>by
        have:=oN (xp,(d:Int)+1) (HFD.o.below hC) (by rw[hN2];omega);rw[aJ.cZ.ni (HND.o q) hm]at this;exact this)
       have hbxx:=jh HFg.o (y:=ae xb (.cells #[.int .i64 xp,.int .i64 (d:Int)] 110 (0,0))) (by simp);have hb52:=jh HFg.o (y:=ae b52 (.cells #[.slice (some ⟨g,0,none⟩) N c,.slice (some ⟨gi,0,none⟩) N N] 52 (0,0))) (by simp);have hci:=iD HFg.o hli HXK.o;have hcq:=iD HFg.o g4 hm;rw[HGI.o]at hci;rw[hgq]at hcq;obtain⟨a2,ha2⟩:=ai (A (q,(xp,(d:Int)+1)));obtain⟨s1,hs1⟩:=ai (A (i,(xp,(d:Int))));rw[hs1]at hci;rw[ha2]at hcq;have HA2:=hid ha2;have HS1:=hid hs1;have ha2t:a2<top:=by rw[<-ha2];exact HX.o.base.low _
       have hs1t:s1<top:=by rw[<-hs1];exact HX.o.base.low _
       have Y0:=hid (show ∀ w',aj wg w'->ay w' rb (rf+q*2) (.slice (some ⟨gz,0,none⟩) N2 cz)from fun w' hC=>cell_below hC t0);have Y1:=hid (show ∀ w',aj wg w'->ay w' xb 0 (.int .i64 xp)from fun w' hC=>cell_below hC (ak hbxx 0));have Y2:=hid (show ∀ w',aj wg w'->ay w' xb 1 (.int .i64 (d:Int))from fun w' hC=>cell_below hC (ak hbxx 1));have Y3:=hid (show ∀ w',aj wg w'->ay w' rb (rf+q*2+1) (.slice (some ⟨gq,0,none⟩) N2 N2)from fun w' hC=>cell_below hC t1);have Y4:=hid (show ∀ w',aj wg w'->ay w' b52 1 (.slice (some ⟨gi,0,none⟩) N N)from fun w' hC=>cell_below hC (ak hb52 1));have Y5:=hid (show ∀ w',aj wg w'->ay w' gi k (uv s1)from fun w' hC=>cell_below hC hci.1);have Y6:=hid (show ∀ w',aj wg w'->ay w' gq m (uv a2)from fun w' hC=>cell_below hC hcq.1);have HGM:=hid hm;have HGG:=hid (And.intro hgo.1 hgo.2);have hwd:IntKind.i64.wrap ((d:Int)+1)=(d:Int)+1:=wrap_small (by omega) (by omega);have q1':(q:Int)<(n:Int):=(by omega);have q0':(0:Int)<=(q:Int):=(by omega);have w1':(m:Int)<(N2:Int):=(by omega);have w0':(0:Int)<=(m:Int):=(by omega);clear t0 t1 hrz hgz hN2 hgq hgo hm HFD hbxx hb52 hci hcq ha2 hs1;go_wp2_with fail;refine ah (by kernel_rfl) (by kernel_rfl) ?_;iterate 13
        with_reducible refine BigFrame.wpQuiet_want (by kernel_rfl) (fun K hK=>?_)
        apply Exists.intro;refine⟨fun w' hC=>?_,hK _ ?_⟩
        ·have f0':=Y0.o w' hC;have f1':=Y1.o w' hC;have f2':=Y2.o w' hC;unfold Oper.quietAt;go_simp
         first | with_reducible rfl | with_reducible exact bD hC (bJ _) (KF.o w' hC)
        clear hK K;try simp only[Act.put,bP,bQ,bK,hwd]
       refine wpQuiet_nil ?_;intro wh hbh;have HFh:Hid (az W.heap.size W wh (PRE++(bI GB (bi G n (E0 G) (F0 G)).C A n++(l2++[ae w.heap.size (.cells #[tv,ov,sv,.slice pa np pc,.int .i64 G.start] 27 (0,0)),ae b38 (.cells #[.slice ko n kc,.slice no n nc] 38 (0,0)),ae b52 (.cells #[.slice (some ⟨g,0,none⟩) N c,.slice (some ⟨gi,0,none⟩) N N] 52 (0,0)),ae xb (.cells #[.int .i64 xp,.int .i64 (d:Int)] 110 (0,0))])))):=hid (HFg.o.below hbh);have HBH:=hid hbh;clear hbh hwd KF;go_wp2_with fail;have KU:=hid (show ∀ w',aj wh w'->Calls Tryz.prog 94 #[uv a2,uv s1] w' fun e w''=>e=.returned (uv (a2 ||| s1))/\aj w' w'' from fun w' hC=>aJ.nH a2 s1 ha2t hs1t w');have X3:=hid (show ∀ w',aj wh w'->ay w' rb (rf+q*2+1) (.slice (some ⟨gq,0,none⟩) N2 N2)from fun w' hC=>Y3.o w' (HBH.o.trans (hC.mono HBH.o.size)));have X4:=hid (show ∀ w',aj wh w'->ay w' b52 1 (.slice (some ⟨gi,0,none⟩) N N)from fun w' hC=>Y4.o w' (HBH.o.trans (hC.mono HBH.o.size)));have X5:=hid (show ∀ w',aj wh w'->ay w' gi k (uv s1)from fun w' hC=>Y5.o w' (HBH.o.trans (hC.mono HBH.o.size)));have X6:=hid (show ∀ w',aj wh w'->ay w' gq m (uv a2)from fun w' hC=>Y6.o w' (HBH.o.trans (hC.mono HBH.o.size)));refine ah (by kernel_rfl) (by kernel_rfl) ?_;iterate 15
        with_reducible refine BigFrame.wpQuiet_want (by kernel_rfl) (fun K hK=>?_)
        apply Exists.intro;refine⟨fun w' hC=>?_,hK _ ?_⟩
        ·have f0':=X3.o w' hC;have f1':=X4.o w' hC;have f2':=X5.o w' hC;have f3':=X6.o w' hC;unfold Oper.quietAt;go_simp
         first | with_reducible rfl | with_reducible exact bD hC (bJ _) (KU.o w' hC)
        clear hK K;try simp only[Act.put,bP,bQ,bK]
       refine wpQuiet_nil ?_;intro wi hbi;have HFi:Hid (az W.heap.size W wi (PRE++(bI GB (bi G n (E0 G) (F0 G)).C A n++(l2++[ae w.heap.size (.cells #[tv,ov,sv,.slice pa np pc,.int .i64 G.start] 27 (0,0)),ae b38 (.cells #[.slice ko n kc,.slice no n nc] 38 (0,0)),ae b52 (.cells #[.slice (some ⟨g,0,none⟩) N c,.slice (some ⟨gi,0,none⟩) N N] 52 (0,0)),ae xb (.cells #[.int .i64 xp,.int .i64 (d:Int)] 110 (0,0))])))):=hid (HFh.o.below hbi);have t3:=X3.o wi hbi;have t6:=X6.o wi hbi;have hfrz:wi.frozen? ⟨gq,m,none⟩=false:=by
        have:=(iD HFi.o g4 HGM.o).2;rw[HGQ.o]at this;exact this
       obtain⟨uu,huu⟩:=ai (a2 ||| s1);have HUU:=hid huu;obtain⟨wS,eS⟩:=ai (wi.setCell ⟨gq,m,none⟩ (uv uu));have HFS:Hid (az W.heap.size W wS (PRE++(bI GB (bi G n (E0 G) (F0 G)).C (iI A (q,(xp,(d:Int)+1)) s1) n++(l2++[ae w.heap.size (.cells #[tv,ov,sv,.slice pa np pc,.int .i64 G.start] 27 (0,0)),ae b38 (.cells #[.slice ko n kc,.slice no n nc] 38 (0,0)),ae b52 (.cells #[.slice (some ⟨g,0,none⟩) N c,.slice (some ⟨gi,0,none⟩) N N] 52 (0,0)),ae xb (.cells #[.int .i64 xp,.int .i64 (d:Int)] 110 (0,0))])))):=hid (by
        have:=BB HFi.o s1 g4 (HND.o q) HGM.o;rw[HGQ.o,HA2.o,huu,eS]at this;exact this)
       rw[huu];have HXN:=hid ((HX.o).upd (t:=(q,(xp,(d:Int)+1))) (v:=s1) (aJ.cZ.mem_places.2 ⟨g4,HGG.o.2⟩) hs1t (fun M hM h0=>by
        have h1:=(HX.o).base.snd M hM h0 (i,(xp,(d:Int))) (aJ.cZ.mem_places.2 ⟨hli,HXC.o⟩);rw[HS1.o]at h1;have h2:=aJ.cZ.wC hM (aJ.cZ.mem_places.2 ⟨hli,HXC.o⟩) HBX.o;rw[HG2.o]at h2;exact aJ.dG h1 h2))
       have HMN:=hid (show FN G n A0 (ch || (a2 ||| s1 != a2)) i (k+1)from fun h=>by
        obtain⟨hc,hsub⟩:=aJ.cZ.xU h;have hst:=(HX.o).stay hc;obtain⟨hmu,hq⟩:=HMQ.o hc;refine hmu.next HXK.o (aJ.cZ.Ac HBX.o ?_ hq);rw[HG2.o,<-hst,HS1.o,HA2.o];exact hsub)
       rw[HA2.o,huu]at HXN;rw[huu]at HMN;clear hbi huu Y0 Y1 Y2 Y3 Y4 Y5 Y6 X3 X4 X5 X6 KU HBH;by_cases heq:uu=a2
       ·subst heq;cases ch
        ·go_wp2_with fail;refine⟨⟨k+1,_,false,by omega,by go_num,rfl,hid (by simpa using HXN.o),hid (by simpa using HMN.o),hid (jT (m:=[ae w.heap.size (.cells #[tv,ov,sv,.slice pa np pc,.int .i64 G.start] 27 (0,0)),ae b38 (.cells #[.slice ko n kc,.slice no n nc] 38 (0,0)),ae b52 (.cells #[.slice (some ⟨g,0,none⟩) N c,.slice (some ⟨gi,0,none⟩) N N] 52 (0,0))]) (m':=[ae xb (.cells #[.int .i64 xp,.int .i64 (d:Int)] 110 (0,0))]) HFS.o)⟩,?_⟩;simp[RowKit.intOf];omega
        ·go_wp2_with fail;refine⟨⟨k+1,_,true,by omega,by go_num,rfl,hid (by simpa using HXN.o),hid (by simpa using HMN.o),hid (jT (m:=[ae w.heap.size (.cells #[tv,ov,sv,.slice pa np pc,.int .i64 G.start] 27 (0,0)),ae b38 (.cells #[.slice ko n kc,.slice no n nc] 38 (0,0)),ae b52 (.cells #[.slice (some ⟨g,0,none⟩) N c,.slice (some ⟨gi,0,none⟩) N N] 52 (0,0))]) (m':=[ae xb (.cells #[.int .i64 xp,.int .i64 (d:Int)] 110 (0,0))]) HFS.o)⟩,?_⟩;simp[RowKit.intOf];omega
       ·have zn:(((uu:Nat):Int) != ((a2:Nat):Int))=true:=by
         rw[bne_iff_ne];omega
        have hne:(uu != a2)=true:=by rw[bne_iff_ne];exact heq
        rw[hne]at HXN HMN;clear hne;cases ch
        ·go_wp2_with fail;refine⟨⟨k+1,_,true,by omega,by go_num,rfl,hid (by simpa using HXN.o),hid (by simpa using HMN.o),hid (jT (m:=[ae w.heap.size (.cells #[tv,ov,sv,.slice pa np pc,.int .i64 G.start] 27 (0,0)),ae b38 (.cells #[.slice ko n kc,.slice no n nc] 38 (0,0)),ae b52 (.cells #[.slice (some ⟨g,0,none⟩) N c,.slice (some ⟨gi,0,none⟩) N N] 52 (0,0))]) (m':=[ae xb (.cells #[.int .i64 xp,.int .i64 (d:Int)] 110 (0,0))]) HFS.o)⟩,?_⟩;simp[RowKit.intOf];omega
        ·go_wp2_with fail;refine⟨⟨k+1,_,true,by omega,by go_num,rfl,hid (by simpa using HXN.o),hid (by simpa using HMN.o),hid (jT (m:=[ae w.heap.size (.cells #[tv,ov,sv,.slice pa np pc,.int .i64 G.start] 27 (0,0)),ae b38 (.cells #[.slice ko n kc,.slice no n nc] 38 (0,0)),ae b52 (.cells #[.slice (some ⟨g,0,none⟩) N c,.slice (some ⟨gi,0,none⟩) N N] 52 (0,0))]) (m':=[ae xb (.cells #[.int .i64 xp,.int .i64 (d:Int)] 110 (0,0))]) HFS.o)⟩,?_⟩;simp[RowKit.intOf];omega
     have p1':(p:Int)<(N:Int):=(by omega);have p0':(0:Int)<=(p:Int):=(by omega);obtain⟨⟨yp,yd⟩,hy⟩:∃ x,((bi G n (E0 G) (F0 G)).C i)[p]?=some x:=⟨_,dH (by rw[HN.o];exact hpl)⟩;have hrow:=HFZ.o _ _ HF.o g i HGF.o;have hyr:=hrow p (by rw[HN.o];exact hpl);have hye:((bi G n (E0 G) (F0 G)).C i)[p]'(by rw[HN.o];exact hpl)=(yp,yd):=(List.getElem?_eq_some_iff.1 hy).2;rw[hye]at hyr;have r0:=hyr.1;have r1:=hyr.2.1;have HYC:=hid hy;have hyt:=aO.bW.1 ((aJ.cZ.iV.1 (List.mem_of_getElem? hy)).there);have hyp1:yp<(G.prods.length:Int):=hyt.2.1;obtain⟨wa,ea⟩:=ai (wr.alloc (.cells #[.int .i64 0,.int .i64 0] 110));have na:wa.heap[wr.heap.size]?=some (.cells #[.int .i64 0,.int .i64 0] 110 (0,0)):=dO ea;have hba:aj wr wa:=dM ea;have vc0:ay wa wr.heap.size 0 (.int .i64 0):=ak na 0;have vf0:=bY na 0;obtain⟨u1,ve0⟩:=ai (wa.setCell ⟨wr.heap.size,0,none⟩ (.int .i64 yp));have m1:u1.heap[wr.heap.size]?=some (.cells #[.int .i64 yp,.int .i64 0] 110 (0,0)):=dK ve0 na;have vc1:ay u1 wr.heap.size 1 (.int .i64 0):=ak m1 1;have vf1:=bY m1 1;obtain⟨u2,ve1⟩:=ai (u1.setCell ⟨wr.heap.size,1,none⟩ (.int .i64 yd));have m2:u2.heap[wr.heap.size]?=some (.cells #[.int .i64 yp,.int .i64 yd] 110 (0,0)):=dK ve1 m1;have hbu:aj wr u2:=by
      rw[<-ve1,<-ve0];exact(hba.setCell (bJ _) _).setCell (bJ _) _
     have hfy:=vG HF.o hbu m2;have y0:ay u2 wr.heap.size 0 (.int .i64 yp):=ak m2 0;have y1:ay u2 wr.heap.size 1 (.int .i64 yd):=ak m2 1;have t1:=cell_below hbu t1;have hc0:=jh hfy (y:=ae w.heap.size (.cells #[tv,ov,sv,.slice pa np pc,.int .i64 G.start] 27 (0,0))) (by simp);have c3:ay u2 w.heap.size 3 (.slice pa np pc):=ak hc0 3;have HFY:=hid (jT (m:=[ae w.heap.size (.cells #[tv,ov,sv,.slice pa np pc,.int .i64 G.start] 27 (0,0)),ae b38 (.cells #[.slice ko n kc,.slice no n nc] 38 (0,0)),ae b52 (.cells #[.slice (some ⟨g,0,none⟩) N c,.slice (some ⟨gi,0,none⟩) N N] 52 (0,0)),ae xb (.cells #[.int .i64 xp,.int .i64 (d:Int)] 110 (0,0))]) (m':=[ae wr.heap.size (.cells #[.int .i64 yp,.int .i64 yd] 110 (0,0))]) hfy);have HMN:¬ (yd=0/\∃ q:Nat,yp=(q:Int)/\bg G q=-1-s)->Hid (MetP G n A0 ch i k xp d s s0 mv (p+1)):=fun hno=>hid (fun h=>by
      obtain⟨h1,h2,h3⟩:=HMP.o h;refine⟨h1,h2,fun p' q hp' hpq hsq=>?_⟩;rcases Nat.lt_or_ge p' p with e | e
      ·exact h3 p' q e hpq hsq
      ·obtain rfl:p'=p:=by omega
       rw[HYC.o]at hpq;injection hpq with hpq;injection hpq with e1 e2;exact absurd ⟨e2,q,e1,hsq⟩ hno)
     have HMN:=hid HMN;clear na m1 m2 hba hbu hfy hc0 hy hrow hyr hye hyt HF;by_cases hyd:yd=0
     case neg =>
      have z1:(yd == 0)=false:=by rw[beq_eq_false_iff_ne];exact hyd
      have HM9:=HMN.o (fun h=>hyd h.1);go_wp2_with fail;refine⟨⟨p+1,A,ch,by omega,by go_num,rfl,HX,HM9,HFY⟩,?_⟩;simp[RowKit.intOf];omega
     subst hyd;by_cases hyp:0<=yp
     case neg =>
      have z1:decide (0<=yp)=false:=dA hyp;have HM9:=HMN.o (fun⟨_,q,h,_⟩=>hyp (by omega));go_wp2_with fail;refine⟨⟨p+1,A,ch,by omega,by go_num,rfl,HX,HM9,HFY⟩,?_⟩;simp[RowKit.intOf];omega
     obtain⟨r,rfl⟩:∃ r:Nat,yp=(r:Int):=⟨yp.toNat,by omega⟩;have hrl2:r<np:=by omega
     obtain⟨pb,po,hpa,hpq⟩:=hpx (by omega);obtain⟨_,p1,_,_⟩:=hpq r (by omega);obtain⟨so,hso⟩:=ai ((G.prods.getD r default).sort);rw[hso]at p1;have HSO:=hid hso;have p1:=cell_below HFY.o.bel p1;rw[hpa]at c3;have z1:decide ((0:Int)<=(r:Int))=true:=eP (by omega);have z2:(r:Int)<(np:Int):=by omega
     have z3:(0:Int)<=(r:Int):=(by omega);have hw2:IntKind.i64.wrap (-1-s)=-1-s:=wrap_small (by omega) (by omega);clear hpq hso;by_cases hss:so=-1-s
     case neg =>
      have z4:(so == -1-s)=false:=by rw[beq_eq_false_iff_ne];exact hss
      have HM9:=HMN.o (fun⟨_,q,h,h2⟩=>hss (by
       obtain rfl:q=r:=by omega
       rw[<-HSO.o];exact h2))
      clear hpa hyp hw2;go_wp2_with fail;refine⟨⟨p+1,A,ch,by omega,by go_num,rfl,HX,HM9,HFY⟩,?_⟩;simp[RowKit.intOf];omega
     subst hss
     as_aux_lemma =>
      have z4:((-1-s:Int) == -1-s)=true:=(by rw[beq_iff_eq]);have hcp:=iD HFY.o hli HYC.o;rw[HGI.o]at hcp;obtain⟨a1,ha1⟩:=ai (A (i,((r:Int),(0:Int))));rw[ha1]at hcp;have HA1:=hid ha1;have ha1t:a1<top:=by rw[<-ha1];exact HX.o.base.low _
      have t6:ay u2 gi p (uv a1):=hcp.1;have KU:=hid (aJ.nH a1 mv ha1t hmvt u2);have HRL2:=hid hrl2;clear hcp ha1 hpa hyp HMN;go_wp2_with fail;refine KU.o.mono ?_;rintro e w9 ⟨rfl,hb9⟩;have HF9:Hid (az W.heap.size W w9 (PRE++(bI GB (bi G n (E0 G) (F0 G)).C A n++(l2++[ae w.heap.size (.cells #[tv,ov,sv,.slice pa np pc,.int .i64 G.start] 27 (0,0)),ae b38 (.cells #[.slice ko n kc,.slice no n nc] 38 (0,0)),ae b52 (.cells #[.slice (some ⟨g,0,none⟩) N c,.slice (some ⟨gi,0,none⟩) N N] 52 (0,0)),ae xb (.cells #[.int .i64 xp,.int .i64 (d:Int)] 110 (0,0))])))):=hid (HFY.o.below hb9);have t1:=cell_below hb9 t1;have t6:=cell_below hb9 t6;have hfrz:w9.frozen? ⟨gi,p,none⟩=false:=by
       have:=(iD HF9.o hli HYC.o).2;rw[HGI.o]at this;exact this
      obtain⟨uu,huu⟩:=ai (a1 ||| mv);obtain⟨wS,eS⟩:=ai (w9.setCell ⟨gi,p,none⟩ (uv uu));have HFS:Hid (az W.heap.size W wS (PRE++(bI GB (bi G n (E0 G) (F0 G)).C (iI A (i,((r:Int),(0:Int))) mv) n++(l2++[ae w.heap.size (.cells #[tv,ov,sv,.slice pa np pc,.int .i64 G.start] 27 (0,0)),ae b38 (.cells #[.slice ko n kc,.slice no n nc] 38 (0,0)),ae b52 (.cells #[.slice (some ⟨g,0,none⟩) N c,.slice (some ⟨gi,0,none⟩) N N] 52 (0,0)),ae xb (.cells #[.int .i64 xp,.int .i64 (d:Int)] 110 (0,0))])))):=hid (by
       have:=BB HF9.o mv hli (HND.o i) HYC.o;rw[HGI.o,HA1.o,huu,eS]at this;exact this)
      have hinP:(i,((r:Int),(0:Int)))∈places (bi G n (E0 G) (F0 G)) n:=aJ.cZ.mem_places.2 ⟨hli,List.mem_of_getElem? HYC.o⟩;have HXN:=hid (HX.o.upd (t:=(i,((r:Int),(0:Int)))) (v:=mv) hinP hmvt (fun M hM h0=>by
       have h1:=HSN.o M hM h0;have h2:=aJ.cZ.D6 hM (aJ.cZ.mem_places.2 ⟨hli,HXC.o⟩) HBX.o hs (show r<G.prods.length by have:=HRL2.o;omega) HSO.o;refine aJ.dG ?_ h2;rw[<-HMV.o];exact aJ.su _ _ (aJ.Kq _) rfl _ h1))
      have HMX:=hid (show MetP G n A0 (ch || (a1 ||| mv != a1)) i k xp d s s0 mv (p+1)from fun h=>by
       obtain⟨hc,hsub⟩:=aJ.cZ.xU h;have hst:=HX.o.stay hc;obtain⟨h1,h2,h3⟩:=HMP.o hc;refine⟨h1,h2,fun p' q hp' hpq hsq=>?_⟩;rcases Nat.lt_or_ge p' p with e | e
       ·exact h3 p' q e hpq hsq
       ·obtain rfl:p'=p:=by omega
        rw[HYC.o]at hpq;injection hpq with hpq;rw[<-hpq,<-hst,HA1.o];exact hsub)
      rw[HA1.o,huu]at HXN;rw[huu]at HMX;rw[huu];clear KU hb9 c3 huu hinP y0 y1;by_cases heq:uu=a1
      ·subst heq;cases ch
       ·go_wp2_with fail;refine⟨⟨p+1,_,false,by omega,by go_num,rfl,hid (by simpa using HXN.o),hid (by simpa using HMX.o),HFS⟩,?_⟩;simp[RowKit.intOf];omega
       ·go_wp2_with fail;refine⟨⟨p+1,_,true,by omega,by go_num,rfl,hid (by simpa using HXN.o),hid (by simpa using HMX.o),HFS⟩,?_⟩;simp[RowKit.intOf];omega
      ·have zn:(((uu:Nat):Int) != ((a1:Nat):Int))=true:=by
        rw[bne_iff_ne];omega
       have hne:(uu != a1)=true:=by rw[bne_iff_ne];exact heq
       rw[hne]at HXN HMX;clear hne;cases ch
       ·go_wp2_with fail;refine⟨⟨p+1,_,true,by omega,by go_num,rfl,hid (by simpa using HXN.o),hid (by simpa using HMX.o),HFS⟩,?_⟩;simp[RowKit.intOf];omega
       ·go_wp2_with fail;refine⟨⟨p+1,_,true,by omega,by go_num,rfl,hid (by simpa using HXN.o),hid (by simpa using HMX.o),HFS⟩,?_⟩;simp[RowKit.intOf];omega
end Go.Proofs.YticmnfmijdgmbaaGreatDoor
