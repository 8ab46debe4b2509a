import Derived.Laws.AppendOwnNone
import Derived.RangeFuncBox
import Derived.Test.YticmnfmijdgmbaaGreatDoorQKq
set_option linter.all false
set_option maxRecDepth 100000
set_option maxHeartbeats 4000000
namespace Go.Proofs.YticmnfmijdgmbaaGreatDoor.aJ
open Go Go.RowKit Go.Lib Go.Joins
theorem CQ {k:Bool}{ps:List PD}{L:List Bool}{j:Nat}(h:j<ps.length):fK (Et k (ps.take (j+1))) L=gJ k (fK (Et k (ps.take j)) L) (ps.getD j default):=by
 unfold fK Et;rw[List.take_add_one,List.map_append,List.foldl_append,dL,dH h];rfl
theorem yN {G:GD}{gv tv ov sv pv:Value}{tf:Nat->Nat->Value}{rv:Nat->Value}{w:World}(h:nJ w gv G tv ov sv pv tf rv)(hV:aB G=true) :
  Calls Tryz.prog 124 #[gv] w fun e W'=>∃ lb L,e=.returned (.slice (some ⟨lb,0,none⟩) G.sorts.length G.sorts.length)/\Least false G.prods G.sorts.length L/\W'.heap[lb]?=some (.cells (L.map Value.bool).toArray 4)/\w.heap.size<=lb/\Below w.heap.size w W':=by
 obtain⟨W1,B,hW1,hB,c0,c1,c2,c3,c4,hG,hb,hsz⟩:=gU h;subst hB;have kv:=tH hG;rw[hV]at kv;have HV:=hid hV;have HR:=hid hG.rights;have hgv:=h.eq;have hs:=hG.sorts;have hp:=hG.prods;subst hgv;obtain⟨sa,sc,rfl,hsn,_⟩:=hs;obtain⟨pa,pc,rfl,hpn,hp⟩:=hp;have HP:=hid hp;clear hp h hG;obtain⟨n60,s60,p120⟩:=gm hV;have hsort:∀ p∈G.prods,p.sort.toNat<G.sorts.length:=fun p hp=>by
  obtain⟨h1,h2,_⟩:=gy hV p hp;omega
 have HLE:=hid (A8 (k:=false) hsort);have hz1:w.heap.size<W1.heap.size:=by rw[hW1];simp
 clear hV hsort;generalize hns:G.sorts.length=ns at *;generalize hnp:G.prods.length=np at *;have HNP:=hid hnp;have HNS:=hid hns;clear hnp hns;go_enter Tryz.func124,Tryz.ntmps124;go_wp2_with fail;rw[<-hW1];clear hW1;refine kv.mono ?_;rintro e w1 ⟨rfl,hB1⟩;have d2:=cell_below hB1 c2;have d3:=cell_below hB1 c3;have km:=o9 ns (by omega);have i0:(0:Int)<=(ns:Int):=by omega
 obtain⟨w2,hw2⟩:∃ w2,w2=w1.alloc (.cells (Array.replicate ns (.bool false)) 4):=⟨_,rfl⟩;have hl0:w2.heap[w1.heap.size]?=some (.cells ((List.replicate ns false).map Value.bool).toArray 4):=by
  rw[hw2,show((List.replicate ns false).map Value.bool).toArray=Array.replicate ns (.bool false)by simp];exact aK w1 _
 have hB2:Below w1.heap.size w1 w2:=by rw[hw2];exact iy (eH _ _) _
 have hz2:=hB1.size;have hBA:=hB1.trans (hB2.mono hz2);have e2:=cell_below hB2 d2;have e3:=cell_below hB2 d3
 go_upto_region 5 with fail
 rw[<-hw2];clear hw2 km d2 d3;generalize hlb:w1.heap.size=lb at *;have hlb1:W1.heap.size<=lb:=by omega
 clear hlb;have hBL:=hid hBA;go_wp2_with fail
 go_loopw [5] (fun i wr=>∃ r:Nat,r<=ns+1/\i=.int .i64 (r:Int)/\wr.heap[lb]?=some (.cells ((dU (Et false G.prods) r (List.replicate ns false)).map Value.bool).toArray 4)/\Far (fun k=>k=lb) w2 wr) (fun i _=>ns+1-(RowKit.intOf i).toNat)
 case atStart=>exact⟨0,by omega,rfl,hl0,Far.refl _ _⟩
 case round =>
  clear e2 e3;obtain⟨r,hr,rfl,hl1,hF1⟩:=hrel;have hBr:Below W1.heap.size W1 wr:=hBL.o.trans (hF1.kW hBL.o.size (by rintro k rfl;exact hlb1));have d2:=cell_below hBr c2;have d3:=cell_below hBr c3;by_cases hrn:r<=ns
  ·have r1:(r:Int)<=(ns:Int):=by omega
   have HF1:=hid hF1;generalize hLr:dU (Et false G.prods) r (List.replicate ns false)=L0 at *;have HLR:=hid hLr;clear hLr;go_wp2_with fail
   go_loopw [6] (fun i wr=>∃ j:Nat,j<=np/\i=.int .i64 (j:Int)/\wr.heap[lb]?=some (.cells ((fK (Et false (G.prods.take j)) L0).map Value.bool).toArray 4)/\Far (fun k=>k=lb) w2 wr) (fun i _=>np-(RowKit.intOf i).toNat)
   case atStart=>exact⟨0,by omega,rfl,hl1,HF1.o⟩
   case round =>
    clear d2 d3 hl1;obtain⟨j,hj,rfl,hl1,hF2⟩:=hrel;have hBj:Below W1.heap.size W1 wr:=hBL.o.trans (hF2.kW hBL.o.size (by rintro k rfl;exact hlb1));have d2:=cell_below hBj c2;have d3:=cell_below hBj c3;by_cases hlt:j<np
    ·obtain⟨b,off,rfl,hc⟩:=HP.o (by omega);obtain⟨x0,x1,x2,x3⟩:=hc j hlt;obtain⟨v1,v2,v3,v4⟩:=jy (mP HV.o (k:=j) (by have:=HNP.o;omega));obtain⟨⟨ra,rc,hrv,hrn2,hrc⟩,hri⟩:=HR.o j (by have:=HNP.o;omega);rw[hrv]at x2;have HSN:=hid (CQ (k:=false) (L:=L0) (j:=j) (ps:=G.prods) (by have:=HNP.o;omega));clear hc;generalize hM:fK (Et false (G.prods.take j)) L0=M at *;generalize G.prods.getD j default=P at *;obtain⟨so,hso⟩:∃ so:Nat,P.sort=so:=⟨P.sort.toNat,by omega⟩;rw[hso]at x1;have hsn':so<ns:=by have:=HNS.o;omega
     have hstep:gJ false M P=M.set so (M.getD so false || P.rs.all (isK false M)):=by unfold gJ;rw[hso];rfl
     have HSTEP:=hid hstep;replace x1:=cell_below hBj x1;replace x2:=cell_below hBj x2;have HRC:=hid hrc;have HRI:=hid hri;have HV4:=hid v4;have hMl:M.length=ns:=by rw[<-hM];exact(by have:=(AA (k:=false) (n:=ns) (ps:=G.prods.take j) (fun p hp=>by obtain⟨h1,h2,_⟩:=gy HV.o p (List.mem_of_mem_take hp);have:=HNS.o;omega)).inv L0 (by rw[<-HLR.o];exact(AA (k:=false) (n:=ns) (ps:=G.prods) (fun p hp=>by obtain⟨h1,h2,_⟩:=gy HV.o p hp;have:=HNS.o;omega)).invs (by simp) r);exact this)
     clear hrc hri hrv v1 v2 v3 v4 x0 x3 hso hstep hM;have HML:=hid hMl;clear hMl;generalize hrl:P.rs.length=rl at *;have HRL:=hid hrl;clear hrl;have j0:(0:Int)<=(j:Int):=by omega
     have j1:(j:Int)<(np:Int):=(by omega);have s0:(0:Int)<=(so:Int):=(by omega);have s1:(so:Int)<(ns:Int):=(by omega);have y1:=pq hl1 (i:=so) (by have:=HML.o;omega);have u1:=unfrozen_of_block hl1 so;go_wp2_with fail
     go_loop [7,8] (fun al i=>∃ q:Nat,q<=rl/\al=.bool ((P.rs.take q).all (isK false M))/\i=.int .i64 (q:Int)) (fun _ i=>rl-(RowKit.intOf i).toNat)
     case atStart=>exact⟨0,by omega,rfl,rfl⟩
     case round =>
      obtain⟨q,hq,rfl,rfl⟩:=hrel;by_cases hql:q<rl
      ·obtain⟨rb,ro,rfl,hcc⟩:=HRC.o (by have:=HRL.o;omega);have g:ay W1 rb (ro+q) (.int .i64 (P.rs.getD q 0)):=hcc q (by have:=HRL.o;omega);replace g:=cell_below hBj g;have hsv:=hid (HV4.o (P.rs.getD q 0) (lu (by have:=HRL.o;omega)));have hsr:=hid (HRI.o (P.rs.getD q 0) (lu (by have:=HRL.o;omega)));have HTA:=Ed P.rs (isK false M) 0 q (by have:=HRL.o;omega);clear hcc;obtain⟨s,hs⟩:=ai (P.rs.getD q 0);rw[hs]at g hsv hsr HTA;clear hs;have k0:(0:Int)<=(q:Int):=by omega
       have k1:(q:Int)<(rl:Int):=(by omega);by_cases hs0:0<=s
       ·have hs1:¬ (s<0):=(by omega);have b5:decide (s<0)=false:=dA hs1;have b6:decide (0<=s)=true:=eP hs0;rw[show isK false M s=false by unfold isK;rw[if_neg hs1]]at HTA;have HTA:=hid HTA;generalize (P.rs.take q).all (isK false M)=xa at *;cases xa;all_goals
         go_wp2;exact⟨⟨q+1,by omega,by rw[HTA.o]<;>rfl,by go_num⟩,by simp[RowKit.intOf];omega⟩
       ·have hs1:s<0:=(by omega);have b5:decide (s<0)=true:=eP hs1;have b6:decide (0<=s)=false:=dA hs0;obtain⟨t,ht⟩:∃ t:Nat,-1-s=(t:Int):=⟨(-1-s).toNat,by omega⟩;have htn:t<ns:=by have:=hsv.o;have:=HNS.o;omega
        have i5:IntKind.i64.wrap (-1-s)=(t:Int):=by have:=hsr.o;rw[IntKind.wrap_i64];omega
        have i7:(0:Int)<=(t:Int):=(by omega);have i8:(t:Int)<(ns:Int):=(by omega);rw[show isK false M s=M.getD t false by unfold isK;rw[if_pos hs1,show(-1-s).toNat=t by omega]]at HTA;have x4:=pq hl1 (i:=t) (by have:=HML.o;omega);have HTA:=hid HTA;have HT:=hid ht;clear ht;generalize (P.rs.take q).all (isK false M)=xa at *;generalize M.getD t false=ea at *;cases xa;all_goals
         go_wp2;exact⟨⟨q+1,by omega,by rw[HTA.o]<;>rfl,by go_num⟩,by simp[RowKit.intOf];omega⟩
      ·have i2:¬ ((q:Int)<(rl:Int)):=(by omega);rw[List.take_of_length_le (by have:=HRL.o;omega)];rw[HSTEP.o]at HSN;generalize P.rs.all (isK false M)=xa at *;generalize hy:M.getD so false=ya at *;clear hy;have hset:(wr.drew.setCell ⟨lb,so,none⟩ (.bool (ya || xa))).heap[lb]?=some (.cells ((M.set so (ya || xa)).map Value.bool).toArray 4):=by
        have:=block_setCell (w:=wr.drew) (i:=so) hl1 (.bool (ya || xa));rw[this];simp[List.map_set]
       have HSET:=hid hset;have HF3:Hid (Far (fun k=>k=lb) w2 (wr.drew.setCell ⟨lb,so,none⟩ (.bool (ya || xa)))):=Far.set (p:=⟨lb,so,none⟩) (Far.drew hF2) rfl _;clear hset;cases ya<;>cases xa
       ·go_wp2_with fail;refine aW 20 (fun w'=>w'.cell? ⟨w.heap.size,3,none⟩=some (.slice (some ⟨b,off,none⟩) np pc)/\w'.cell? ⟨b,off+j*4+1,none⟩=some (.int .i64 (so:Int))/\w'.cell? ⟨lb,so,none⟩=some (.bool false)) (by kernel_rfl) ⟨d3,x1,y1⟩ (fun inv hHeld=>?_);iterate 20
         refine aF (v:=?_) rfl (by kernel_rfl) (fun _ _ _ h=>h) (Or.inl ⟨by rfl,?_⟩) hHeld inv (fun inv=>?_)
         rotate_left
         ·intro w hSw;try dsimp only at hSw
          go_simp;try with_reducible rfl
         simp only[Act.put,List.setIfInBounds_toArray,List.set_cons_zero,List.set_cons_succ]
        have s3:=hHeld.2.2;refine fQ (i:=20) rfl (by kernel_rfl) (fun K' hK=>?_);go_simp;refine hK.out _ _ (fun h=>absurd h (by decide)) ?_;clear hK K';try simp only[Act.put,List.setIfInBounds_toArray,List.set_cons_zero,List.set_cons_succ]
        refine aQ (by kernel_rfl) ?_ _;go_wp2;exact⟨⟨j+1,by omega,by go_num,by rw[HSN.o];exact HSET.o,HF3.o⟩,by simp[RowKit.intOf];omega⟩
       ·go_wp2_with fail;refine aW 20 (fun w'=>w'.cell? ⟨w.heap.size,3,none⟩=some (.slice (some ⟨b,off,none⟩) np pc)/\w'.cell? ⟨b,off+j*4+1,none⟩=some (.int .i64 (so:Int))/\w'.cell? ⟨lb,so,none⟩=some (.bool false)) (by kernel_rfl) ⟨d3,x1,y1⟩ (fun inv hHeld=>?_);iterate 20
         refine aF (v:=?_) rfl (by kernel_rfl) (fun _ _ _ h=>h) (Or.inl ⟨by rfl,?_⟩) hHeld inv (fun inv=>?_)
         rotate_left
         ·intro w hSw;try dsimp only at hSw
          go_simp;try with_reducible rfl
         simp only[Act.put,List.setIfInBounds_toArray,List.set_cons_zero,List.set_cons_succ]
        have s3:=hHeld.2.2;refine fQ (i:=20) rfl (by kernel_rfl) (fun K' hK=>?_);go_simp;refine hK.out _ _ (fun h=>absurd h (by decide)) ?_;clear hK K';try simp only[Act.put,List.setIfInBounds_toArray,List.set_cons_zero,List.set_cons_succ]
        refine aQ (by kernel_rfl) ?_ _;go_wp2;exact⟨⟨j+1,by omega,by go_num,by rw[HSN.o];exact HSET.o,HF3.o⟩,by simp[RowKit.intOf];omega⟩
       ·go_wp2_with fail;refine aW 20 (fun w'=>w'.cell? ⟨w.heap.size,3,none⟩=some (.slice (some ⟨b,off,none⟩) np pc)/\w'.cell? ⟨b,off+j*4+1,none⟩=some (.int .i64 (so:Int))/\w'.cell? ⟨lb,so,none⟩=some (.bool true)) (by kernel_rfl) ⟨d3,x1,y1⟩ (fun inv hHeld=>?_);iterate 17
         refine aF (v:=?_) rfl (by kernel_rfl) (fun _ _ _ h=>h) (Or.inl ⟨by rfl,?_⟩) hHeld inv (fun inv=>?_)
         rotate_left
         ·intro w hSw;try dsimp only at hSw
          go_simp;try with_reducible rfl
         simp only[Act.put,List.setIfInBounds_toArray,List.set_cons_zero,List.set_cons_succ]
        refine kR (i:=17) (oi:={dst:=some 81,op:=Op.move (Operand.tmp 7),type:=4,pos := "ref.go:24",after:=#[{on:=16,ground:=Ground.guard}],guard:=some (16,false)}) (v:=undef) rfl (by kernel_rfl) (by kernel_rfl) (by kernel_rfl) (by decide) (by decide) (by kernel_rfl) (by kernel_rfl) (fun _ _ _ h=>h) (Or.inr ⟨by rfl,rfl⟩) hHeld inv (fun inv=>?_);simp only[Act.put,List.setIfInBounds_toArray,List.set_cons_zero,List.set_cons_succ];iterate 2
         refine aF (v:=?_) rfl (by kernel_rfl) (fun _ _ _ h=>h) (Or.inl ⟨by rfl,?_⟩) hHeld inv (fun inv=>?_)
         rotate_left
         ·intro w hSw;try dsimp only at hSw
          go_simp;try with_reducible rfl
         simp only[Act.put,List.setIfInBounds_toArray,List.set_cons_zero,List.set_cons_succ]
        have s3:=hHeld.2.2;refine fQ (i:=20) rfl (by kernel_rfl) (fun K' hK=>?_);go_simp;refine hK.out _ _ (fun h=>absurd h (by decide)) ?_;clear hK K';try simp only[Act.put,List.setIfInBounds_toArray,List.set_cons_zero,List.set_cons_succ]
        refine aQ (by kernel_rfl) ?_ _;go_wp2;exact⟨⟨j+1,by omega,by go_num,by rw[HSN.o];exact HSET.o,HF3.o⟩,by simp[RowKit.intOf];omega⟩
       ·go_wp2_with fail;refine aW 20 (fun w'=>w'.cell? ⟨w.heap.size,3,none⟩=some (.slice (some ⟨b,off,none⟩) np pc)/\w'.cell? ⟨b,off+j*4+1,none⟩=some (.int .i64 (so:Int))/\w'.cell? ⟨lb,so,none⟩=some (.bool true)) (by kernel_rfl) ⟨d3,x1,y1⟩ (fun inv hHeld=>?_);iterate 17
         refine aF (v:=?_) rfl (by kernel_rfl) (fun _ _ _ h=>h) (Or.inl ⟨by rfl,?_⟩) hHeld inv (fun inv=>?_)
         rotate_left
         ·intro w hSw;try dsimp only at hSw
          go_simp;try with_reducible rfl
         simp only[Act.put,List.setIfInBounds_toArray,List.set_cons_zero,List.set_cons_succ]
        refine kR (i:=17) (oi:={dst:=some 81,op:=Op.move (Operand.tmp 7),type:=4,pos := "ref.go:24",after:=#[{on:=16,ground:=Ground.guard}],guard:=some (16,false)}) (v:=undef) rfl (by kernel_rfl) (by kernel_rfl) (by kernel_rfl) (by decide) (by decide) (by kernel_rfl) (by kernel_rfl) (fun _ _ _ h=>h) (Or.inr ⟨by rfl,rfl⟩) hHeld inv (fun inv=>?_);simp only[Act.put,List.setIfInBounds_toArray,List.set_cons_zero,List.set_cons_succ];iterate 2
         refine aF (v:=?_) rfl (by kernel_rfl) (fun _ _ _ h=>h) (Or.inl ⟨by rfl,?_⟩) hHeld inv (fun inv=>?_)
         rotate_left
         ·intro w hSw;try dsimp only at hSw
          go_simp;try with_reducible rfl
         simp only[Act.put,List.setIfInBounds_toArray,List.set_cons_zero,List.set_cons_succ]
        have s3:=hHeld.2.2;refine fQ (i:=20) rfl (by kernel_rfl) (fun K' hK=>?_);go_simp;refine hK.out _ _ (fun h=>absurd h (by decide)) ?_;clear hK K';try simp only[Act.put,List.setIfInBounds_toArray,List.set_cons_zero,List.set_cons_succ]
        refine aQ (by kernel_rfl) ?_ _;go_wp2;exact⟨⟨j+1,by omega,by go_num,by rw[HSN.o];exact HSET.o,HF3.o⟩,by simp[RowKit.intOf];omega⟩
    ·have j1:¬ ((j:Int)<(np:Int)):=(by omega);rw[List.take_of_length_le (by have:=HNP.o;omega)]at hl1;have HL2:Hid (wr.heap[lb]?=some (.cells ((dU (Et false G.prods) (r+1) (List.replicate ns false)).map Value.bool).toArray 4)):=by
      show wr.heap[lb]?=some (.cells ((fK (Et false G.prods) (dU (Et false G.prods) r (List.replicate ns false))).map Value.bool).toArray 4);rw[HLR.o];exact hl1
     have HF2:=hid hF2;clear hl1 hF2;go_wp2;exact⟨⟨r+1,by omega,by go_num,HL2.o,HF2.o⟩,by simp[RowKit.intOf];omega⟩
  ·obtain rfl:r=ns+1:=by omega
   have r1:¬ (((ns+1:Nat):Int)<=(ns:Int)):=by omega
   have HL1:=hid hl1;clear hl1;go_wp2;go_ret;exact⟨lb,rfl,_,HLE.o,HL1.o,by omega,hb.trans (hBr.mono hsz)⟩
end Go.Proofs.YticmnfmijdgmbaaGreatDoor.aJ
/- Plain mathematics: rounds enough of sets. -/
namespace Go.Proofs.YticmnfmijdgmbaaGreatDoor.aJ
def lX (n:Nat)(L:List Nat):Prop:=L.length=n/\∀ x∈L,x<top
def jF (t:Nat)(L:List Nat):List Bool:=L.map fun x=>x.testBit t
structure LocS (n:Nat) (evs:List Ev):Prop where
 place:∀ e∈evs,e.1<n
 set:∀ e∈evs,∀ L,lX n L->e.2 L<top
 bit:∀ e∈evs,∀ t a b,lX n a->lX n b->jF t a=jF t b->(e.2 a).testBit t=(e.2 b).testBit t
theorem oD {t:Nat}{L:List Nat}(i:Nat):(jF t L).getD i false=(L.getD i 0).testBit t:=by
 unfold jF;rw[dL,dL,List.getElem?_map];cases L[i]?<;>simp
theorem uX (t:Nat)(L:List Nat)(e:Ev):jF t (stepS L e)=(jF t L).set e.1 ((jF t L).getD e.1 false || (e.2 L).testBit t):=by
 rw[oD];unfold jF stepS;rw[List.map_set,Nat.testBit_or]
def zf (evs:List Ev):List (List Nat->List Nat):=evs.map fun e L=>stepS L e
theorem Az {n:Nat}{evs:List Ev}(h:LocS n evs)(t:Nat):jL (lX n) (jF t) (zf evs):=by
 refine⟨fun u hu L hL=>?_,fun u hu L L' hL hL' e=>?_,fun u hu L hL=>?_⟩
 ·obtain⟨e,he,rfl⟩:=List.mem_map.1 hu;exact⟨by show(stepS L e).length=n;rw[lN];exact hL.1,Ey hL.2 _ (oH (getD_lt hL.2 _) (h.set e he L hL))⟩
 ·obtain⟨x,hx,rfl⟩:=List.mem_map.1 hu;show jF t (stepS L x)=jF t (stepS L' x);rw[uX,uX,e,h.bit x hx t L L' hL hL' e]
 ·obtain⟨e,he,rfl⟩:=List.mem_map.1 hu;show jF t (stepS L e)=jF t L\/cf (jF t (stepS L e))<cf (jF t L);rw[uX];have hi:e.1<(jF t L).length:=by unfold jF;rw[List.length_map,hL.1];exact h.place e he
  cases h1:(jF t L).getD e.1 false
  ·cases h2:(e.2 L).testBit t
   ·left;have:=uh (L:=jF t L) (i:=e.1);rw[h1]at this;exact this
   ·right;have:=vJ _ _ hi h1;show((jF t L).set e.1 (false || true)).count false<_;rw[Bool.false_or];show _<(jF t L).count false;omega
  ·left;have:=uh (L:=jF t L) (i:=e.1);rw[h1]at this;simpa using this
theorem yT {evs:List Ev}{L0:List Nat}(n:Nat):ji evs L0 (dU (zf evs) n L0):=by
 induction n with
 | zero=>exact .refl
 | succ n ih =>
  have:∀ (qs:List Ev),(∀ q∈qs,q∈evs)->∀ M,ji evs L0 M->ji evs L0 (fK (zf qs) M):=by
   intro qs;induction qs with
   | nil=>exact fun _ M h=>h
   | cons q qs ih2=>exact fun hq M h=>ih2 (fun x hx=>hq x (List.mem_cons_of_mem _ hx)) _ (.step h (hq q List.mem_cons_self))
  exact this evs (fun _ h=>h) _ ih
theorem vC (n:Nat):lX n (List.replicate n 0):=⟨by simp,fun x hx=>by rw[List.eq_of_mem_replicate hx];decide⟩
theorem rU {n:Nat}{evs:List Ev}(h:LocS n evs){L0:List Nat}(h0:lX n L0):lY evs (dU (zf evs) (n+1) L0)/\lX n (dU (zf evs) (n+1) L0):=by
 have hI:=(Az h 0).invs h0 (n+1);refine⟨fun e he=>eG.2 fun t ht=>?_,hI⟩;have hc:=(Az h t).closed h0 (n:=n) (by
  show(jF t L0).count false<=n;have:=List.count_le_length (a:=false) (l:=jF t L0);unfold jF at this ⊢;rw[List.length_map,h0.1]at this;exact this) _ (List.mem_map.2 ⟨e,he,rfl⟩)
 generalize dU (zf evs) (n+1) L0=M at *;have h1:jF t (stepS M e)=jF t M:=hc;have h2:(jF t (stepS M e)).getD e.1 false=(jF t M).getD e.1 false:=by rw[h1]
 rw[oD,oD]at h2;rw[<-h2];unfold stepS;rw[dL,List.getElem?_set_self (by rw[hI.1];exact h.place e he),Option.getD_some,Nat.testBit_or,ht];simp
theorem y7 {n:Nat}{evs:List Ev}(h:LocS n evs):fV evs n (dU (zf evs) (n+1) (List.replicate n 0)):=
 ⟨yT _,(rU h (vC n)).1,(rU h (vC n)).2.2⟩
theorem zD (nt:Nat)(E:List Bool){F F':List Nat}{t:Nat}(hl:F.length=F'.length)(hb:jF t F=jF t F'):∀ (l:List Int) {b b':Nat},b.testBit t=b'.testBit t->(ofRow nt E F l b).testBit t=(ofRow nt E F' l b').testBit t
 | [],_,_,h=>h
 | s::l,b,b',h=>by
  have ih:=zD nt E hl hb l h;unfold ofRow;split
  ·rfl
  ·rw[<-hl];split
   ·rfl
   ·rw[Nat.testBit_or,Nat.testBit_or,<-oD,<-oD,hb];congr 1;split
    ·exact ih
    ·rfl
theorem locF {nt n:Nat}{E:List Bool}{ps:List PD}(hs:∀ p∈ps,p.sort.toNat<n):LocS n (qJ nt E ps):=by
 refine⟨fun e he=>?_,fun e he L hL=>?_,fun e he t a b ha hb hp=>?_⟩
 ·obtain⟨p,hp,rfl⟩:=List.mem_map.1 he;exact hs p hp
 ·obtain⟨p,hp,rfl⟩:=List.mem_map.1 he;exact iJ nt E hL.2 _ (by decide)
 ·obtain⟨p,_,rfl⟩:=List.mem_map.1 he;exact zD nt E (by rw[ha.1,hb.1]) hp _ rfl
end Go.Proofs.YticmnfmijdgmbaaGreatDoor.aJ
/- Lists of numbers, for the document's own answers on sets. -/
namespace Go.Proofs.YticmnfmijdgmbaaGreatDoor.aJ
open Go Go.RowKit Go.Lib
theorem info3:(Tryz.prog.info? 3).map (fun i=>(i.zero,i.size,i.bytes))=some (some (.int .i64 0),1,8):=by kernel_rfl
def nums (l:List Nat):List Value:=l.map fun k:Nat=>Value.int .i64 (k:Int)
def Listed (base:Nat)(l:List Nat)(W:World)(v:Value):Prop:=W.ownsRow base 3 1 v l.length (nums l)/\(v=.slice none 0 0↔l=[])
theorem Bq (a:Nat)(n:Int):gu a n=true↔(0<=n/\n<64/\a.testBit n.toNat=true):=by
 unfold gu;rw[decide_eq_true_eq,lD]
def Reads (W:World)(v:Value)(l:List Int):Prop:=
 ∃ a cap,v=.slice a l.length cap/\(l≠[]->∃ b off,a=some ⟨b,off,none⟩/\∀ i,i<l.length->W.cell? ⟨b,off+i,none⟩=some (.int .i64 (l.getD i 0)))
def ints (l:List Nat):List Int:=l.map fun k:Nat=>(k:Int)
theorem Listed.reads {base:Nat}{l:List Nat}{W:World}{v:Value}(h:Listed base l W v):Reads W v (ints l):=by
 obtain⟨ho,hn⟩:=h;rcases ho.2 with⟨rfl,h0⟩ | ⟨g,cap,cur,rfl,hb,hg,h1,h2,h3,h4⟩
 ·have:l=[]:=List.eq_nil_of_length_eq_zero h0;subst this;exact⟨none,0,rfl,fun h=>absurd rfl h⟩
 ·refine⟨some ⟨g,0,none⟩,cap,by simp[ints],fun _=>⟨g,0,rfl,fun i hi=>?_⟩⟩;have hi':i<l.length:=by simpa[ints] using hi
  have:=ho.cellAt i (by simpa using hi');rw[Nat.zero_add,this];simp[nums,ints,hi']
theorem Listed.below {base:Nat}{l:List Nat}{W W':World}{v:Value}(h:Listed base l W v)(hb:Below W.heap.size W W'):Listed base l W' v:=by
 refine⟨⟨h.1.1,h.1.2.imp id fun⟨g,cap,cur,e1,e2,e3,e4⟩=>⟨g,cap,cur,e1,e2,?_,e4⟩⟩,h.2⟩;exact(hb.block g (dZ e3)).trans e3
theorem Reads.below {l:List Int}{W W':World}{v:Value}(h:Reads W v l)(hb:Below W.heap.size W W'):Reads W' v l:=by
 obtain⟨a,cap,rfl,h⟩:=h;refine⟨a,cap,rfl,fun hn=>?_⟩;obtain⟨b,off,rfl,hc⟩:=h hn;refine⟨b,off,rfl,fun i hi=>?_⟩;have hci:=hc i hi;have hlt:b<W.heap.size:=by
  apply Classical.byContradiction;intro hge;have:W.heap[b]?=none:=by simp;omega
  simp[World.cell?,this]at hci
 exact(hb.cell (p:=⟨b,off+i,none⟩) hlt).trans hci
end Go.Proofs.YticmnfmijdgmbaaGreatDoor.aJ
/- The document's own answers for sets of small numbers: whether a set has a number, and the set of one number. -/
namespace Go.Proofs.YticmnfmijdgmbaaGreatDoor.aJ
open Go Go.RowKit Go.Lib
theorem JA (a k:Nat):a >>> k / 2=a >>> (k+1):=by
 rw[<-shr_one a k,Nat.shiftRight_eq_div_pow (a >>> k) 1]
theorem yt (a n:Nat)(hn:n<64):gu a (n:Int)=decide (a >>> n % 2=1):=by
 rw[<-qp,Bool.eq_iff_iff,Bq];constructor
 ·exact fun h=>by simpa using h.2.2
 ·exact fun h=>⟨by omega,by omega,by simpa using h⟩
theorem shr_le (a k:Nat):a >>> k<=a:=by rw[Nat.shiftRight_eq_div_pow];exact Nat.div_le_self _ _
theorem uG (a:Nat)(n:Int)(ha:a<18446744073709551616)(w:World):Calls Tryz.prog 78 #[u64 a,.int .i64 n] w fun e w'=>e=.returned (.bool (gu a n))/\w=w':=by
 by_cases h0:n<0
 ·have e:gu a n=false:=by
   cases h:gu a n
   ·rfl
   ·have:=(Bq a n).1 h;omega
  rw[e];have E:=hid e;clear e;go_enter Tryz.func78,Tryz.ntmps78;go_wp2;go_ret;exact⟨rfl,rfl⟩
 ·by_cases h1:63<n
  ·have e:gu a n=false:=by
    cases h:gu a n
    ·rfl
    ·have:=(Bq a n).1 h;omega
   rw[e];have E:=hid e;clear e;go_enter Tryz.func78,Tryz.ntmps78;go_wp2;go_ret;exact⟨rfl,rfl⟩
  ·obtain⟨m,rfl⟩:∃ m:Nat,n=m:=⟨n.toNat,by omega⟩;have e:=yt a m (by omega);generalize gu a (m:Int)=B at *;have E:=hid e;clear e;go_enter Tryz.func78,Tryz.ntmps78;go_wp2
   go_loop [0,5] (fun s i=>∃ k:Nat,k<=m/\i=.int .i64 (k:Int)/\s=u64 (a >>> k)) (fun _ i=>m-(intOf i).toNat)
   case atStart=>exact⟨0,Nat.zero_le _,rfl,rfl⟩
   case round =>
    obtain⟨k,hk,rfl,rfl⟩:=hrel;have hs:=shr_le a k;have HH:=hid (JA a k);generalize hx:a >>> k=x at *;have HX:=hid hx;clear hx;have hx0:(0:Int)<=(x:Int):=by omega
    by_cases hlt:k<m
    ·go_wp2;exact⟨⟨k+1,by omega,by go_num,by rw[<-HH.o];rfl⟩,by simp[intOf];omega⟩
    ·obtain rfl:k=m:=by omega
     go_wp2;go_ret;refine⟨?_,rfl⟩;rw[E.o,HX.o];show Ending.returned (.bool (((x:Int) % 2) == 1))=_;congr 2;rw[Bool.eq_iff_iff];simp;omega
theorem I4 (k:Nat)(h:k+1<64):aZ ((k:Int)+1)=aZ (k:Int)*2:=by
 unfold aZ;rw[if_pos (by omega),if_pos (by omega)];rw[show((k:Int)+1).toNat=k+1 by omega,Int.toNat_natCast,Nat.pow_succ]
theorem MN (m:Nat)(hm:m<64)(w:World):Calls Tryz.prog 92 #[.int .i64 (m:Int)] w fun e w'=>e=.returned (u64 (aZ (m:Int)))/\w=w':=by
 go_enter Tryz.func92,Tryz.ntmps92;go_wp2
 go_loop [3,4] (fun s i=>∃ k:Nat,k<=m/\i=.int .i64 (k:Int)/\s=u64 (aZ (k:Int))) (fun _ i=>m-(intOf i).toNat)
 case atStart=>exact⟨0,Nat.zero_le _,rfl,rfl⟩
 case round =>
  obtain⟨k,hk,rfl,rfl⟩:=hrel;by_cases hlt:k<m
  ·have HB:=hid (I4 k (by omega));have hb:=jW ((k:Int)+1);rw[HB.o]at hb;generalize aZ (k:Int)=x at *;have HX:IntKind.u64.wrap ((x:Int)*2)=((x*2:Nat):Int):=by rw[IntKind.wrap_u64];omega
   have HY:=hid HX;clear HX;go_wp2;exact⟨⟨k+1,by omega,by go_num,by rw[show((k+1:Nat):Int)=(k:Int)+1 from rfl,HB.o];first | rfl | rw[HY.o]⟩,by simp[intOf];omega⟩
  ·obtain rfl:k=m:=by omega
   go_wp2;go_ret;exact⟨rfl,rfl⟩
end Go.Proofs.YticmnfmijdgmbaaGreatDoor.aJ
/- The document's own answers for sets: its list of a set's numbers, and its set of some numbers. -/
namespace Go.Proofs.YticmnfmijdgmbaaGreatDoor.aJ
open Go Go.RowKit Go.Lib
theorem listed_nil (base:Nat)(W:World):Listed base [] W (.slice none 0 0):=⟨World.ownsRow_nil _ _ _ _,by simp⟩
theorem Dw {base k:Nat}{l:List Nat}{W:World}{v:Value}(h:W.ownsRow base 3 1 v (l.length+1) (nums l++[.int .i64 (k:Int)])):Listed base (l++[k]) W v:=by
 obtain⟨g,cap,rfl⟩:=ownsRow_succ h;exact⟨by simpa[nums] using h,by simp⟩
theorem BJ {base:Nat}{w wr w1:World}{v:Value}{l:List Nat}{o:Obj}(hB:Below base w wr)(hb:base<=wr.heap.size)(hL:Listed base l wr v)(hg:(wr.alloc o).grownBy w1 v.ownBlock):Below base w w1:=
 (hB.alloc hb o).grown hg (by simp;omega) fun k e=>(hL.1.lt k e).1
theorem Aj (a:Nat)(ha:a<18446744073709551616)(w:World) :
  Calls Tryz.prog 125 #[u64 a] w fun e W'=>∃ v,e=.returned v/\Listed w.heap.size (upto a 64) W' v/\Below w.heap.size w W':=by
 obtain⟨i0,hi,hz0,hz1,hz2⟩:=info_parts info3;go_enter Tryz.func125,Tryz.ntmps125;go_wp2
 go_loopw [3,4] (fun v i wr=>∃ k:Nat,k<=64/\i=.int .i64 (k:Int)/\Listed w.heap.size (upto a k) wr v/\Below w.heap.size w wr) (fun _ i _=>64-(intOf i).toNat)
 case atStart=>exact⟨0,by omega,rfl,listed_nil _ _,eH _ _⟩
 case round =>
  obtain⟨k,hk,rfl,hL,hB⟩:=hrel;have hlen:=upto_length a k;have hsz:=hB.size;by_cases hlt:k<64
  ·have kh:=hid fun w=>uG a k ha w;cases hb:a.testBit k
   ·rw[show gu a (k:Int)=false by rw[yt a k hlt,<-qp,hb]]at kh;have HU:=hid (Hw hb);clear hb;go_wp2_with (go_at_call 78;refine(kh.o _).mono ?_;rintro e w' ⟨rfl,rfl⟩);exact⟨⟨k+1,by omega,by go_num,by rw[HU.o];exact hL,hB⟩,by simp[intOf];omega⟩
   ·rw[show gu a (k:Int)=true by rw[yt a k hlt,<-qp,hb]]at kh;have HU:=hid (Jo hb);clear hb;generalize hl:upto a k=l at *;clear hl;have hrow:=hL.1;go_wp2_with (first | (go_at_call 78;refine(kh.o _).mono ?_;rintro e w' ⟨rfl,rfl⟩) | (at_builtin;go_must (refine wpList_append_own _ rfl _ _ 43 rfl w.heap.size 3 i0 (.int .i64 0) 1 8 Tryz.underlying43 hi hz0 hz1 hz2 rfl (by decide) _ _ _ rfl (hrow.alloc _) ⟨wr.heap.size,0,none⟩ 1 1 [.int .i64 (k:Int)] rfl rfl (cell_one_new _ _ _) (by simp[Value.oneCell']) (by unfold maxLen;omega) (by omega) (by simp;omega) ?_);intro v' w1 hown' hgrow _));exact⟨⟨k+1,by omega,by go_num,by rw[HU.o];exact Dw hown',BJ hB hsz hL hgrow⟩,by simp[intOf];omega⟩
  ·obtain rfl:k=64:=by omega
   go_wp2;go_ret;exact⟨_,rfl,hL,hB⟩
end Go.Proofs.YticmnfmijdgmbaaGreatDoor.aJ
/- The document's own set of some numbers: number by number. -/
namespace Go.Proofs.YticmnfmijdgmbaaGreatDoor.aJ
open Go Go.RowKit Go.Lib
def yc (s k:Nat):Nat:=s % 2 ^ k
theorem J5 {s k:Nat}(hk:k<64)(h:s.testBit k=true):yc s (k+1)=yc s k+aZ (k:Int):=by
 rw[Nat.testBit_eq_decide_div_mod_eq,decide_eq_true_eq]at h;unfold yc aZ;rw[Nat.mod_pow_succ,h,if_pos (by omega)];simp
theorem Iu {s k:Nat}(h:s.testBit k=false):yc s (k+1)=yc s k:=by
 rw[Nat.testBit_eq_decide_div_mod_eq,decide_eq_false_iff_not]at h;unfold yc;rw[Nat.mod_pow_succ,show s / 2 ^ k % 2=0 by omega];simp
theorem J6 {s:Nat}(h:s<18446744073709551616):yc s 64=s:=Nat.mod_eq_of_lt h
theorem lowN_le (s k:Nat):yc s k<=s:=Nat.mod_le _ _
def qC (l:List Int)(k j:Nat):Bool:=decide ((k:Int)∈l.take j)
theorem DI {l:List Int}{k j:Nat}(hj:j<l.length):qC l k (j+1)=(qC l k j || (l.getD j 0 == (k:Int))):=by
 unfold qC;rw[take_snoc hj,Bool.eq_iff_iff];simp;exact or_congr Iff.rfl eq_comm
theorem E8 {l:List Int}{k:Nat}(hk:k<64):qC l k l.length=(BQ l).testBit k:=by
 rw[vU,qC,List.take_length];simp[hk]
theorem Ai {v:Value}{l:List Int}{w:World}(hl:l.length<=9223372036854775807)(h:Reads w v l) :
  Calls Tryz.prog 49 #[v] w fun e w'=>e=.returned (u64 (BQ l))/\w=w':=by
 obtain⟨A,cap,rfl,hrd⟩:=h;have HRD:=hid hrd;clear hrd;have hof:=ES l;go_enter Tryz.func49,Tryz.ntmps49;go_wp2
 go_loop [3,4,5,6] (fun s n _ _=>∃ k:Nat,k<=64/\n=.int .i64 (k:Int)/\s=u64 (yc (BQ l) k)) (fun _ n _ _=>64-(intOf n).toNat)
 case atStart=>exact⟨0,by omega,rfl,by simp[yc]⟩
 case round =>
  obtain⟨k,hk,rfl,rfl⟩:=hrel;by_cases hlt:k<64
  ·have HA:=hid (E8 (l:=l) hlt);go_wp2
   go_loop [5,6] (fun b i=>∃ j:Nat,j<=l.length/\i=.int .i64 (j:Int)/\b=.bool (qC l k j)) (fun _ i=>l.length-(intOf i).toNat)
   case atStart=>exact⟨0,Nat.zero_le _,rfl,by simp[qC]⟩
   case round =>
    obtain⟨j,hj,rfl,rfl⟩:=hrel;by_cases hjl:j<l.length
    ·obtain⟨b,off,rfl,hc⟩:=HRD.o (fun e=>by rw[e]at hjl;simp at hjl);have g1:=hc j hjl;clear hc;have HS:=hid (DI (k:=k) hjl);generalize hx:l.getD j 0=x at *;clear hx;have hi:(0:Int)<=(j:Int):=by omega
     have hi2:(j:Int)<(l.length:Int):=(by omega);generalize qC l k j=B at *;cases B
     ·go_wp2;exact⟨⟨j+1,by omega,by go_num,by rw[HS.o];rfl⟩,by simp[intOf];omega⟩
     ·go_wp2;exact⟨⟨j+1,by omega,by go_num,by rw[HS.o];rfl⟩,by simp[intOf];omega⟩
    ·obtain rfl:j=l.length:=by omega
     have HA2:=HA.o;cases hb:(BQ l).testBit k
     ·rw[hb]at HA2;rw[HA2];have HU:=hid (Iu hb);clear hb HA2;go_wp2;exact⟨⟨k+1,by omega,by go_num,by rw[HU.o]⟩,by simp[intOf];omega⟩
     ·rw[hb]at HA2;rw[HA2];have HU:=hid (J5 hlt hb);have h2:=lowN_le (BQ l) (k+1);rw[HU.o]at h2;clear hb HA2;have kb:=hid fun w=>MN k hlt w;generalize yc (BQ l) k=x at *;generalize aZ (k:Int)=y at *;go_wp2_with (go_at_call 92;refine(kb.o _).mono ?_;rintro e w' ⟨rfl,rfl⟩);exact⟨⟨k+1,by omega,by go_num,by rw[HU.o];exact congrArg (Value.int .u64) (Int.natCast_add x y).symm⟩,by simp[intOf];omega⟩
  ·obtain rfl:k=64:=by omega
   go_wp2;go_ret;exact⟨by rw[J6 hof];rfl,rfl⟩
end Go.Proofs.YticmnfmijdgmbaaGreatDoor.aJ
