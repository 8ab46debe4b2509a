import Derived.Test.YticmnfmijdgmbaaGreatDoorZc
set_option linter.all false
set_option maxRecDepth 100000
set_option maxHeartbeats 8000000
namespace Go.Proofs.YticmnfmijdgmbaaGreatDoor
open Go Go.RowKit Go.Lib
open aO (It ax aP)
open aJ (u64 gu top)
open wQ
theorem GL:(Tryz.prog.info? 188).map (fun i=>(i.zero,i.size,i.bytes))=some (some (.agg #[.int .i64 0,.int .u64 0]),2,16):=by kernel_rfl
theorem gW {a b:Value}(ha:a.oneCell'=true)(hb:b.oneCell'=true)(q:Value)(hq:q∈[a,b]):q.oneCell'=true:=by
 rcases List.mem_cons.1 hq with rfl | hq
 ·exact ha
 ·rw[List.mem_singleton.1 hq];exact hb
def pC (l:List (Int×Nat)):List Value:=l.flatMap fun x=>[.int .i64 x.1,u64 x.2]
theorem zB (a b:List (Int×Nat)):pC (a++b)=pC a++pC b:=by unfold pC;exact List.flatMap_append
def gZ (G:GD)(l:List It)(us:List Nat)(p:Int):Int×Nat:=(p,us.getD (GG (p,((ax G p).length:Int)) l) 0)
noncomputable def gV (G:GD) (l:List It) (us:List Nat):List (Int×Nat):=(doneN G l us l.length).map (gZ G l us)
theorem yz {G:GD}{l:List It}{us:List Nat}{p:Int}(h:p∈doneN G l us l.length):(p,((ax G p).length:Int))∈l/\-1<=p/\p<(G.prods.length:Int):=by
 unfold doneN at h;obtain⟨i,hi,rfl⟩:=List.mem_map.1 h;obtain⟨hi1,hi2⟩:=List.mem_filter.1 hi;have hd:=of_decide_eq_true hi2;have hil:i<l.length:=by simpa using hi1
 have hth:=aO.bW.1 (((aO.eY G l).2 (l.getD i (0,0))).1 hd.2.2.1).there;refine⟨?_,hth.1,hth.2.1⟩;rw[<-hd.2.2.2];show l.getD i (0,0)∈l;rw[dL,dH hil];exact List.getElem_mem _
theorem jR {w:World}{B B' sz n:Nat}{v:Value}{xs:List Value}(h:aI w B sz v n xs)(hB:B'<=B):aI w B' sz v n xs:=by
 obtain⟨hl,h | ⟨g,off,cap,rfl,h0,h1⟩⟩:=h
 ·exact⟨hl,.inl h⟩
 ·exact⟨hl,.inr ⟨g,off,cap,rfl,eX hB h0,h1⟩⟩
theorem nO {w:World}{B sz n:Nat}{v:Value}{xs:List Value}(h:aI w B sz v n xs)(b:Nat)(hb:b∈v.ownBlock.toList):B<=b/\b<w.heap.size:=by
 obtain⟨hl,⟨rfl,_⟩ | ⟨g,off,cap,rfl,h0,h1,_⟩⟩:=h
 ·simp[Value.ownBlock]at hb
 ·obtain rfl:b=g:=by simpa[Value.ownBlock] using hb
  exact⟨h0,h1⟩
theorem oV {w:World}{B sz n m c:Nat}{o:Option Addr}{xs:List Value}(h:aI w B sz (.slice o m c) n xs)(hn:0<n):∃ g off,o=some ⟨g,off,none⟩/\∀ j u,xs[j]?=some u->w.cell? ⟨g,off+j,none⟩=some u:=by
 obtain⟨hl,⟨_,h0⟩ | ⟨g,off,cap,e,_,_,_,_,h3,_⟩⟩:=h
 ·omega
 ·injection e with e1 e2 e3;exact⟨g,off,e1,h3⟩
def PassedP (G:GD)(l:List It)(us:List Nat)(w:World)(e:Ending)(w':World):Prop:=
 ∃ v,e=.returned v/\aj w w'/\aI w' w.heap.size 2 v (gV G l us).length (pC (gV G l us))
theorem EN {G:GD}{gv iv av:Value}{w:World}{l:List It}{us:List Nat}(h:fZ w gv G)(hV:aB G=true)(hi:aS w iv l)(hl:l.length<=100000)(hu:yK w av us)(hlu:us.length=l.length) :
  Calls Tryz.prog 75 #[gv,.agg #[iv,av]] w (PassedP G l us w):=by
 have HGr:=hid h;have HI:=hid hi;have HU:=hid hu;obtain⟨N,hN⟩:=ai (l.length);obtain⟨io,ic,rfl,hil,_⟩:=hi;obtain⟨ao,ac,rfl,hul,hux⟩:=hu;rw[hlu]at hux HU ⊢;rw[hN]at HI HU hux ⊢;have HUX:=hid hux;have HN:=hid hN;obtain⟨tv,ov,sv,pv,tf,rv,h⟩:=h;have hgv:=h.eq;subst hgv;obtain⟨pa,pc,rfl,hpn,hpx⟩:=h.prods;have hp0:0<G.prods.length\/G.prods.length=0:=by omega
 obtain⟨np,hnp⟩:=ai (G.prods.length);have HPR:=hid h;rw[hnp]at HGr hpx ⊢;obtain⟨W1,e1⟩:=ai (w.alloc (.cells #[tv,ov,sv,.slice pa np pc,.int .i64 G.start] 27));have n1:W1.heap[w.heap.size]?=some (.cells #[tv,ov,sv,.slice pa np pc,.int .i64 G.start] 27 (0,0)):=dO e1;obtain⟨W2,e2⟩:=ai (W1.alloc (.cells #[.slice io N ic,.slice ao N ac] 48));have n2:W2.heap[W1.heap.size]?=some (.cells #[.slice io N ic,.slice ao N ac] 48 (0,0)):=dO e2;have h2:aj W1 W2:=dM e2;have f1:=bV (l:=[]) (az.empty w w.heap.size (bJ _)) e1 n1;have f2:=bV f1 e2 n2;have c0:ay W2 w.heap.size 0 tv:=cell_below h2 (ak n1 0);have c1:ay W2 w.heap.size 1 ov:=cell_below h2 (ak n1 1);have c2:ay W2 w.heap.size 2 sv:=cell_below h2 (ak n1 2);have c3:ay W2 w.heap.size 3 (.slice pa np pc):=cell_below h2 (ak n1 3);have c4:ay W2 w.heap.size 4 (.int .i64 G.start):=cell_below h2 (ak n1 4);have d0:ay W2 W1.heap.size 0 (.slice io N ic):=ak n2 0;have d1:ay W2 W1.heap.size 1 (.slice ao N ac):=ak n2 1;have KD:=hid (MW (us:=us) (HGr.o.below f2.bel) hV (HI.o.below f2.bel) hl (eU.mono HU.o fun _ _ _ hc=>cell_below f2.bel hc));have HF2:=hid f2;clear h f1 f2 n1 n2 h2 hux hN;go_enter Tryz.func75,Tryz.ntmps75;go_wp2_with fail;refine KD.o.mono ?_;rintro e w3 ⟨dv,rfl,hb3,hdv⟩;obtain⟨P,hP⟩:=ai (doneN G l us l.length);have HPM:=hid (show ∀ p∈P,(p,((ax G p).length:Int))∈l/\-1<=p/\p<(np:Int)from by rw[<-hP,<-hnp];exact fun p hp=>yz hp);have HPP:=hid (show gV G l us=P.map (gZ G l us)from by unfold gV;rw[hP]);rw[hP]at hdv;obtain⟨nd,hnd⟩:=ai (P.length);have HND:=hid hnd;have hndl:nd<=100000:=by
  rw[<-hnd,<-hP];exact eX (vH G l us _) hl
 rw[hnd]at hdv;obtain⟨do_,dc,rfl⟩:=hdv.shape;have f3:=HF2.o.add (aA w.heap.size 1 (.slice do_ nd dc) nd (P.map fun p=>.int .i64 p)) hb3 (jR hdv HF2.o.bel.size) (fun b hb=>nO hdv b hb);have HF:=hid (show az w.heap.size w w3 [ae w.heap.size (.cells #[tv,ov,sv,.slice pa np pc,.int .i64 G.start] 27 (0,0)),ae W1.heap.size (.cells #[.slice io N ic,.slice ao N ac] 48 (0,0)),aA w.heap.size 1 (.slice do_ nd dc) nd (P.map fun p=>.int .i64 p),aA w.heap.size 2 (.slice none 0 0) 0 (pC ([]))]from lU f3);clear hb3 hdv f3 KD HF2 c0 c1 c2 c3 c4 d0 d1 e1 e2 hP hnd;go_wp2_with fail
 go_loopw [5,13] (fun t5 t13 wr=>∃ (i:Nat) (v:Value),i<=nd/\v=t5/\t13=.int .i64 (i:Int)/\Hid (az w.heap.size w wr [ae w.heap.size (.cells #[tv,ov,sv,.slice pa np pc,.int .i64 G.start] 27 (0,0)),ae W1.heap.size (.cells #[.slice io N ic,.slice ao N ac] 48 (0,0)),aA w.heap.size 1 (.slice do_ nd dc) nd (P.map fun p=>.int .i64 p),aA w.heap.size 2 v i (pC (((P.take i).map (gZ G l us))))])) (fun _ t13 _=>nd-(RowKit.intOf t13).toNat)
 case atStart=>exact⟨0,_,Nat.zero_le _,rfl,rfl,HF⟩
 case round =>
  clear HF;obtain⟨i,v,hiN,rfl,rfl,HF⟩:=hrel;by_cases hlt:i<nd
  ·have j1:(i:Int)<(nd:Int):=by omega
   have j0:(0:Int)<=(i:Int):=by omega
   obtain⟨p,hp⟩:∃ p,P[i]?=some p:=⟨_,dH (by rw[HND.o];exact hlt)⟩;obtain⟨hpl,hpb0,hpb1⟩:=HPM.o p (List.mem_of_getElem? hp);have HSX:=hid (show(P.take (i+1)).map (gZ G l us)=(P.take i).map (gZ G l us)++[gZ G l us p]from by
    rw[List.take_add_one,hp,List.map_append];rfl)
   obtain⟨db,df,rfl,hdc⟩:=oV (show aI wr w.heap.size 1 (.slice do_ nd dc) nd _ from HF.o.ok 2 _ rfl) (by omega);have r0:ay wr db (df+i) (.int .i64 p):=hdc i _ (by rw[List.getElem?_map,hp];rfl);obtain⟨ln,hln⟩:=ai ((ax G p).length);rw[hln]at hpl;have HLN:=hid hln;have HPL:=hid hpl;obtain⟨wa,ea⟩:=ai (wr.alloc (.cells #[.int .i64 0,.int .i64 0] 60));have na:wa.heap[wr.heap.size]?=some (.cells #[.int .i64 0,.int .i64 0] 60 (0,0)):=dO ea;have hfa:=bV HF.o ea na;have vn0:wa.heap[wr.heap.size]?=some (.cells #[.int .i64 0,.int .i64 0] 60 (0,0)):=na;have vc0:ay wa wr.heap.size 0 (.int .i64 0):=ak vn0 0;have vf0:=bY vn0 0;obtain⟨u1,ve0⟩:=ai (wa.setCell ⟨wr.heap.size,0,none⟩ (.int .i64 p));have vn1:u1.heap[wr.heap.size]?=some (.cells #[.int .i64 p,.int .i64 0] 60 (0,0)):=dK ve0 vn0;have vc1:ay u1 wr.heap.size 1 (.int .i64 0):=ak vn1 1;have vf1:=bY vn1 1;obtain⟨u2,ve1⟩:=ai (u1.setCell ⟨wr.heap.size,1,none⟩ (.int .i64 1));have vn2:u2.heap[wr.heap.size]?=some (.cells #[.int .i64 p,.int .i64 1] 60 (0,0)):=dK ve1 vn1;have HFu:=hid (show az w.heap.size w u2 ([ae w.heap.size (.cells #[tv,ov,sv,.slice pa np pc,.int .i64 G.start] 27 (0,0)),ae W1.heap.size (.cells #[.slice io N ic,.slice ao N ac] 48 (0,0)),aA w.heap.size 1 (.slice (some ⟨db,df,none⟩) nd dc) nd (P.map fun p=>.int .i64 p),aA w.heap.size 2 v i (pC (((P.take i).map (gZ G l us))))]++[ae wr.heap.size (.cells #[.int .i64 p,.int .i64 1] 60 (0,0))])from by
    have h1:=aT (k:=0) (i:=0) (v:=.int .i64 p) hfa rfl;rw[ve0]at h1;have h2:=aT (m:=[ae wr.heap.size (.cells #[.int .i64 p,.int .i64 0] 60 (0,0))]) (k:=0) (i:=1) (v:=.int .i64 1) h1 rfl;rw[ve1]at h2;exact h2)
   have HV2:=hid vn2;clear hdc hfa na vn0 vn1 hln hpl;by_cases hpn:p<0
   ·have j2:decide (0<=p)=false:=dA (by omega);have HFx:=hid (show az w.heap.size w u2 ([ae w.heap.size (.cells #[tv,ov,sv,.slice pa np pc,.int .i64 G.start] 27 (0,0)),ae W1.heap.size (.cells #[.slice io N ic,.slice ao N ac] 48 (0,0)),aA w.heap.size 1 (.slice (some ⟨db,df,none⟩) nd dc) nd (P.map fun p=>.int .i64 p),aA w.heap.size 2 v i (pC (((P.take i).map (gZ G l us))))]++[ae wr.heap.size (.cells #[.int .i64 p,.int .i64 (ln:Int)] 60 (0,0))])from by
     have e:((ln:Nat):Int)=1:=by
      have h1:=HLN.o;unfold aO.ax at h1;rw[if_pos (by omega)]at h1;have h2:(1:Nat)=ln:=h1;omega
     rw[e];exact HFu.o)
    clear HFu HV2 vn2;obtain⟨wd,ewd⟩:=ai (u2.drew);have hbd:aj u2 wd:=pW ewd;have HFd:=hid (HFx.o.below hbd);obtain⟨ix,hix⟩:=ai (GG (p,(ln:Int)) l);have hixl:ix<N:=by
     have h1:=ry HPL.o;rw[hix]at h1;have:=(List.getElem?_eq_some_iff.1 h1).1;rw[HN.o]at this;exact this
    obtain⟨S,hS⟩:=ai (us.getD ix 0);have HP1:=hid (show gZ G l us p=(p,S)from by unfold gZ;rw[HLN.o,hix,hS]);obtain⟨ub,uf,rfl,hu1⟩:=HUX.o (by omega);have hu2:=hu1 ix hixl;rw[hS]at hu2;have m0:(0:Int)<=(ix:Int):=by omega
    have m1:(ix:Int)<(N:Int):=(by omega);have KI:=hid (show ∀ w',aj wd w'->Calls Tryz.prog 95 #[.slice io N ic,.agg #[.int .i64 p,.int .i64 (ln:Int)]] w' fun e w''=>e=.returned (.int .i64 (ix:Int))/\aj w' w'' from fun w' hC=>by
     have h1:=DF (HI.o.below (HFd.o.below hC).bel) (p,(ln:Int)) (by omega);unfold ixX at h1;rw[if_pos HPL.o,hix]at h1;exact h1)
    have HS:=hid (show ∀ w',aj wd w'->ay w' W1.heap.size 0 (.slice io N ic)/\ay w' W1.heap.size 1 (.slice (some ⟨ub,uf,none⟩) N ac)/\ay w' wr.heap.size 0 (.int .i64 p)/\ay w' wr.heap.size 1 (.int .i64 (ln:Int))/\ay w' ub (uf+ix) (u64 S)from fun w' hC=>by
     have hb:=(HFd.o.below hC).bel;have n4:=au (l:=[]) (m:=[ae w.heap.size (.cells #[tv,ov,sv,.slice pa np pc,.int .i64 G.start] 27 (0,0)),ae W1.heap.size (.cells #[.slice io N ic,.slice (some ⟨ub,uf,none⟩) N ac] 48 (0,0)),aA w.heap.size 1 (.slice (some ⟨db,df,none⟩) nd dc) nd (P.map fun p=>.int .i64 p),aA w.heap.size 2 v i (pC (((P.take i).map (gZ G l us))))]) (aV (HFd.o.below hC)) (k:=1) rfl;have nx:=au (HFd.o.below hC) (k:=0) rfl;exact⟨ak n4 0,ak n4 1,ak nx 0,ak nx 1,cell_below hb hu2⟩)
    have HH0:=HS.o wd (eH _ _);obtain⟨vo,vc,rfl⟩:=(show aI wd w.heap.size 2 v _ _ from HFd.o.ok 3 _ rfl).shape;have HSZ:=hid hndl;have HUC:=hid hu2;clear hu1 hu2 hix hS hbd;go_wp2_with fail;clear vc0 vf0 vc1 vf1 ve0 ve1 ea r0;refine aW 13 (fun w'=>w'.cell? ⟨W1.heap.size,0,none⟩=some (.slice io N ic)/\w'.cell? ⟨W1.heap.size,1,none⟩=some (.slice (some ⟨ub,uf,none⟩) N ac)/\w'.cell? ⟨wr.heap.size,0,none⟩=some (.int .i64 p)/\w'.cell? ⟨wr.heap.size,1,none⟩=some (.int .i64 (ln:Int))/\w'.cell? ⟨ub,uf+ix,none⟩=some (u64 S)) (by kernel_rfl) (by rw[ewd];exact HH0) (fun inv hHeld=>?_);rw[ewd];clear hHeld ewd;iterate 7
     refine aF (v:=?_) rfl (by kernel_rfl) (fun _ _ _ h=>h) (Or.inl ⟨by rfl,?_⟩) HH0 inv (fun inv=>?_)
     rotate_left
     ·intro w hSw;try dsimp only at hSw
      go_simp;try with_reducible rfl
     simp only[Act.put,bP,bQ,bK]
    refine eu (i:=7) rfl (by kernel_rfl) (by decide) inv (fun inv K' hK=>?_);go_simp;refine(KI.o wd (eH _ _)).mono ?_;rintro e w7 ⟨rfl,hb7⟩;have HF7:=hid (HFd.o.below hb7);have HH1:=HS.o w7 hb7;refine hK.out _ _ HH1 ?_;clear hK K' HH0;try simp only[Act.put,bP,bQ,bK]
    iterate 3
     refine aF (v:=?_) rfl (by kernel_rfl) (fun _ _ _ h=>h) (Or.inl ⟨by rfl,?_⟩) HH1 inv (fun inv=>?_)
     rotate_left
     ·intro w hSw;try dsimp only at hSw
      go_simp;try with_reducible rfl
     simp only[Act.put,bP,bQ,bK]
    obtain⟨wq,eq⟩:=ai (w7.alloc (.cells #[.int .i64 p,u64 S] 188));have nq:wq.heap[w7.heap.size]?=some (.cells #[.int .i64 p,u64 S] 188 (0,0)):=dO eq;have hbq:aj w7 wq:=dM eq;have HFq:=hid (HF7.o.below hbq);have HH2:=HS.o wq (hb7.trans (hbq.mono hb7.size));have HBQ:=hid (hb7.trans (hbq.mono hb7.size));have HCQ:=hid (show ∀ i u,[(.int .i64 p:Value),u64 S][i]?=some u->wq.cell? ⟨w7.heap.size,i,none⟩=some u from fun i u hi=>by
     rw[ak nq,<-hi,<-List.getElem?_toArray])
    have HOQ:=hid (show ∀ q∈[(.int .i64 p:Value),u64 S],q.oneCell'=true from fun q hq=>gW rfl rfl q hq);have HBq:=hid (show w.heap.size<=wq.heap.size from eX HFq.o.le HFq.o.bel.size);have HOW:=hid (show aI wq w.heap.size 2 (.slice vo i vc) i (pC ((P.take i).map (gZ G l us)))from HFq.o.ok 3 _ rfl);clear nq hbq hb7;refine eu (i:=11) rfl (by kernel_rfl) (by decide) inv (fun inv K' hK=>?_);go_simp;refine hK.out _ _ HH2 ?_;clear hK K' HH1;try simp only[Act.put,bP,bQ,bK]
    refine eu (i:=12) rfl (by kernel_rfl) (by decide) inv (fun inv K' hK=>?_);simp only[Region.wanted];rw[if_pos trivial];refine jH (.tmp 29) (.tmp 40) 139 188 rfl (.agg #[.int .i64 0,.int .u64 0]) 2 16 Tryz.underlying139 GL rfl (by decide) (.slice vo i vc) i (pC ((P.take i).map (gZ G l us))) rfl HOW.o w7.heap.size rfl [.int .i64 p,u64 S] rfl HCQ.o HOQ.o (by omega) HBq.o ?_;intro ao2 c8 w8 hown hg8 hat;have h8:=HFq.o.bU 3 rfl hown hg8 hat;have e9:pC ((P.take i).map (gZ G l us))++[.int .i64 p,u64 S]=pC ((P.take (i+1)).map (gZ G l us)):=by rw[HSX.o,zB,HP1.o];rfl
    rw[e9]at h8;have HF8:=hid (show az w.heap.size w w8 ([ae w.heap.size (.cells #[tv,ov,sv,.slice pa np pc,.int .i64 G.start] 27 (0,0)),ae W1.heap.size (.cells #[.slice io N ic,.slice (some ⟨ub,uf,none⟩) N ac] 48 (0,0)),aA w.heap.size 1 (.slice (some ⟨db,df,none⟩) nd dc) nd (P.map fun p=>.int .i64 p),aA w.heap.size 2 (.slice ao2 (i+1) c8) (i+1) (pC (((P.take (i+1)).map (gZ G l us))))]++[ae wr.heap.size (.cells #[.int .i64 p,.int .i64 (ln:Int)] 60 (0,0))])from h8);have n4:=au (l:=[]) (m:=[ae w.heap.size (.cells #[tv,ov,sv,.slice pa np pc,.int .i64 G.start] 27 (0,0)),ae W1.heap.size (.cells #[.slice io N ic,.slice (some ⟨ub,uf,none⟩) N ac] 48 (0,0)),aA w.heap.size 1 (.slice (some ⟨db,df,none⟩) nd dc) nd (P.map fun p=>.int .i64 p),aA w.heap.size 2 (.slice ao2 (i+1) c8) (i+1) (pC (((P.take (i+1)).map (gZ G l us))))]) (aV HF8.o) (k:=1) rfl;have nx:=au HF8.o (k:=0) rfl;have hu8:ay w8 ub (uf+ix) (u64 S):=cell_below HF8.o.bel HUC.o;have HH9:w8.cell? ⟨W1.heap.size,0,none⟩=some (.slice io N ic)/\w8.cell? ⟨W1.heap.size,1,none⟩=some (.slice (some ⟨ub,uf,none⟩) N ac)/\w8.cell? ⟨wr.heap.size,0,none⟩=some (.int .i64 p)/\w8.cell? ⟨wr.heap.size,1,none⟩=some (.int .i64 (ln:Int))/\w8.cell? ⟨ub,uf+ix,none⟩=some (u64 S):=⟨ak n4 0,ak n4 1,ak nx 0,ak nx 1,hu8⟩;refine hK.out _ _ HH9 ?_;clear hK K' HH2 hown hg8 hat e9 h8 n4 nx;try simp only[Act.put,bP,bQ,bK]
    refine fQ (i:=13) rfl (by kernel_rfl) (fun K' hK=>?_);go_simp;refine hK.out _ _ (fun h=>absurd h (by decide)) ?_;clear hK K';try simp only[Act.put,bP,bQ,bK]
    refine aQ (by kernel_rfl) ?_ _;have HF9:=hid (aV HF8.o);clear HF8;go_wp2_with fail;refine⟨⟨i+1,_,by omega,rfl,rfl,HF9⟩,?_⟩;show nd-((i:Int)+1).toNat<nd-((i:Int)).toNat;omega
   ·have j2:decide (0<=p)=true:=eP (by omega);obtain⟨j,rfl⟩:∃ j:Nat,p=(j:Int):=⟨p.toNat,by omega⟩;have hjl:j<np:=(by omega);obtain⟨pb,po,rfl,hpq⟩:=hpx (by omega);obtain⟨_,_,p2,_⟩:=hpq j hjl;obtain⟨⟨ra,rc,hre,hrn,_⟩,_⟩:=HPR.o.rights j (by rw[hnp];exact hjl);have hrl:(G.prods.getD j default).rs.length=ln:=by
     have h1:=HLN.o;unfold aO.ax at h1;rw[if_neg (by omega)]at h1;exact h1
    rw[hre,hrl]at p2;have p2:=cell_below HFu.o.bel p2;have j3:(j:Int)<(np:Int):=by omega
    have j4:(0:Int)<=(j:Int):=(by omega);have nb:=au (l:=[]) (m:=[ae w.heap.size (.cells #[tv,ov,sv,.slice (some ⟨pb,po,none⟩) np pc,.int .i64 G.start] 27 (0,0)),ae W1.heap.size (.cells #[.slice io N ic,.slice ao N ac] 48 (0,0)),aA w.heap.size 1 (.slice (some ⟨db,df,none⟩) nd dc) nd (P.map fun p=>.int .i64 p),aA w.heap.size 2 v i (pC (((P.take i).map (gZ G l us))))]) (aV HFu.o) (k:=0) rfl;have b3:ay u2 w.heap.size 3 (.slice (some ⟨pb,po,none⟩) np pc):=ak nb 3;have q1:ay u2 wr.heap.size 1 (.int .i64 1):=ak vn2 1;have qf:=bY vn2 1;obtain⟨u3,e3⟩:=ai (u2.setCell ⟨wr.heap.size,1,none⟩ (.int .i64 (ln:Int)));have HFx:=hid (show az w.heap.size w u3 ([ae w.heap.size (.cells #[tv,ov,sv,.slice (some ⟨pb,po,none⟩) np pc,.int .i64 G.start] 27 (0,0)),ae W1.heap.size (.cells #[.slice io N ic,.slice ao N ac] 48 (0,0)),aA w.heap.size 1 (.slice (some ⟨db,df,none⟩) nd dc) nd (P.map fun p=>.int .i64 p),aA w.heap.size 2 v i (pC (((P.take i).map (gZ G l us))))]++[ae wr.heap.size (.cells #[.int .i64 (j:Int),.int .i64 (ln:Int)] 60 (0,0))])from by
     have h1:=aT (m:=[ae wr.heap.size (.cells #[.int .i64 (j:Int),.int .i64 1] 60 (0,0))]) (k:=0) (i:=1) (v:=.int .i64 (ln:Int)) HFu.o rfl;rw[e3]at h1;exact h1)
    clear HFu HV2 vn2 hpq nb hrl hre;obtain⟨wd,ewd⟩:=ai (u3.drew);have hbd:aj u3 wd:=pW ewd;have HFd:=hid (HFx.o.below hbd);obtain⟨ix,hix⟩:=ai (GG ((j:Int),(ln:Int)) l);have hixl:ix<N:=by
     have h1:=ry HPL.o;rw[hix]at h1;have:=(List.getElem?_eq_some_iff.1 h1).1;rw[HN.o]at this;exact this
    obtain⟨S,hS⟩:=ai (us.getD ix 0);have HP1:=hid (show gZ G l us (j:Int)=((j:Int),S)from by unfold gZ;rw[HLN.o,hix,hS]);obtain⟨ub,uf,rfl,hu1⟩:=HUX.o (by omega);have hu2:=hu1 ix hixl;rw[hS]at hu2;have m0:(0:Int)<=(ix:Int):=by omega
    have m1:(ix:Int)<(N:Int):=(by omega);have KI:=hid (show ∀ w',aj wd w'->Calls Tryz.prog 95 #[.slice io N ic,.agg #[.int .i64 (j:Int),.int .i64 (ln:Int)]] w' fun e w''=>e=.returned (.int .i64 (ix:Int))/\aj w' w'' from fun w' hC=>by
     have h1:=DF (HI.o.below (HFd.o.below hC).bel) ((j:Int),(ln:Int)) (by omega);unfold ixX at h1;rw[if_pos HPL.o,hix]at h1;exact h1)
    have HS:=hid (show ∀ w',aj wd w'->ay w' W1.heap.size 0 (.slice io N ic)/\ay w' W1.heap.size 1 (.slice (some ⟨ub,uf,none⟩) N ac)/\ay w' wr.heap.size 0 (.int .i64 (j:Int))/\ay w' wr.heap.size 1 (.int .i64 (ln:Int))/\ay w' ub (uf+ix) (u64 S)from fun w' hC=>by
     have hb:=(HFd.o.below hC).bel;have n4:=au (l:=[]) (m:=[ae w.heap.size (.cells #[tv,ov,sv,.slice (some ⟨pb,po,none⟩) np pc,.int .i64 G.start] 27 (0,0)),ae W1.heap.size (.cells #[.slice io N ic,.slice (some ⟨ub,uf,none⟩) N ac] 48 (0,0)),aA w.heap.size 1 (.slice (some ⟨db,df,none⟩) nd dc) nd (P.map fun p=>.int .i64 p),aA w.heap.size 2 v i (pC (((P.take i).map (gZ G l us))))]) (aV (HFd.o.below hC)) (k:=1) rfl;have nx:=au (HFd.o.below hC) (k:=0) rfl;exact⟨ak n4 0,ak n4 1,ak nx 0,ak nx 1,cell_below hb hu2⟩)
    have HH0:=HS.o wd (eH _ _);obtain⟨vo,vc,rfl⟩:=(show aI wd w.heap.size 2 v _ _ from HFd.o.ok 3 _ rfl).shape;have HSZ:=hid hndl;have HUC:=hid hu2;clear hu1 hu2 hix hS hbd;go_wp2_with fail;clear vc0 vf0 vc1 vf1 ve0 ve1 ea r0;refine aW 13 (fun w'=>w'.cell? ⟨W1.heap.size,0,none⟩=some (.slice io N ic)/\w'.cell? ⟨W1.heap.size,1,none⟩=some (.slice (some ⟨ub,uf,none⟩) N ac)/\w'.cell? ⟨wr.heap.size,0,none⟩=some (.int .i64 (j:Int))/\w'.cell? ⟨wr.heap.size,1,none⟩=some (.int .i64 (ln:Int))/\w'.cell? ⟨ub,uf+ix,none⟩=some (u64 S)) (by kernel_rfl) (by rw[ewd];exact HH0) (fun inv hHeld=>?_);rw[ewd];clear hHeld ewd;iterate 7
     refine aF (v:=?_) rfl (by kernel_rfl) (fun _ _ _ h=>h) (Or.inl ⟨by rfl,?_⟩) HH0 inv (fun inv=>?_)
     rotate_left
     ·intro w hSw;try dsimp only at hSw
      go_simp;try with_reducible rfl
     simp only[Act.put,bP,bQ,bK]
    refine eu (i:=7) rfl (by kernel_rfl) (by decide) inv (fun inv K' hK=>?_);go_simp;refine(KI.o wd (eH _ _)).mono ?_;rintro e w7 ⟨rfl,hb7⟩;have HF7:=hid (HFd.o.below hb7);have HH1:=HS.o w7 hb7;refine hK.out _ _ HH1 ?_;clear hK K' HH0;try simp only[Act.put,bP,bQ,bK]
    iterate 3
     refine aF (v:=?_) rfl (by kernel_rfl) (fun _ _ _ h=>h) (Or.inl ⟨by rfl,?_⟩) HH1 inv (fun inv=>?_)
     rotate_left
     ·intro w hSw;try dsimp only at hSw
      go_simp;try with_reducible rfl
     simp only[Act.put,bP,bQ,bK]
    obtain⟨wq,eq⟩:=ai (w7.alloc (.cells #[.int .i64 (j:Int),u64 S] 188));have nq:wq.heap[w7.heap.size]?=some (.cells #[.int .i64 (j:Int),u64 S] 188 (0,0)):=dO eq;have hbq:aj w7 wq:=dM eq;have HFq:=hid (HF7.o.below hbq);have HH2:=HS.o wq (hb7.trans (hbq.mono hb7.size));have HBQ:=hid (hb7.trans (hbq.mono hb7.size));have HCQ:=hid (show ∀ i u,[(.int .i64 (j:Int):Value),u64 S][i]?=some u->wq.cell? ⟨w7.heap.size,i,none⟩=some u from fun i u hi=>by
     rw[ak nq,<-hi,<-List.getElem?_toArray])
    have HOQ:=hid (show ∀ q∈[(.int .i64 (j:Int):Value),u64 S],q.oneCell'=true from fun q hq=>gW rfl rfl q hq);have HBq:=hid (show w.heap.size<=wq.heap.size from eX HFq.o.le HFq.o.bel.size);have HOW:=hid (show aI wq w.heap.size 2 (.slice vo i vc) i (pC ((P.take i).map (gZ G l us)))from HFq.o.ok 3 _ rfl);clear nq hbq hb7;refine eu (i:=11) rfl (by kernel_rfl) (by decide) inv (fun inv K' hK=>?_);go_simp;refine hK.out _ _ HH2 ?_;clear hK K' HH1;try simp only[Act.put,bP,bQ,bK]
    refine eu (i:=12) rfl (by kernel_rfl) (by decide) inv (fun inv K' hK=>?_);simp only[Region.wanted];rw[if_pos trivial];refine jH (.tmp 29) (.tmp 40) 139 188 rfl (.agg #[.int .i64 0,.int .u64 0]) 2 16 Tryz.underlying139 GL rfl (by decide) (.slice vo i vc) i (pC ((P.take i).map (gZ G l us))) rfl HOW.o w7.heap.size rfl [.int .i64 (j:Int),u64 S] rfl HCQ.o HOQ.o (by omega) HBq.o ?_;intro ao2 c8 w8 hown hg8 hat;have h8:=HFq.o.bU 3 rfl hown hg8 hat;have e9:pC ((P.take i).map (gZ G l us))++[.int .i64 (j:Int),u64 S]=pC ((P.take (i+1)).map (gZ G l us)):=by rw[HSX.o,zB,HP1.o];rfl
    rw[e9]at h8;have HF8:=hid (show az w.heap.size w w8 ([ae w.heap.size (.cells #[tv,ov,sv,.slice (some ⟨pb,po,none⟩) np pc,.int .i64 G.start] 27 (0,0)),ae W1.heap.size (.cells #[.slice io N ic,.slice (some ⟨ub,uf,none⟩) N ac] 48 (0,0)),aA w.heap.size 1 (.slice (some ⟨db,df,none⟩) nd dc) nd (P.map fun p=>.int .i64 p),aA w.heap.size 2 (.slice ao2 (i+1) c8) (i+1) (pC (((P.take (i+1)).map (gZ G l us))))]++[ae wr.heap.size (.cells #[.int .i64 (j:Int),.int .i64 (ln:Int)] 60 (0,0))])from h8);have n4:=au (l:=[]) (m:=[ae w.heap.size (.cells #[tv,ov,sv,.slice (some ⟨pb,po,none⟩) np pc,.int .i64 G.start] 27 (0,0)),ae W1.heap.size (.cells #[.slice io N ic,.slice (some ⟨ub,uf,none⟩) N ac] 48 (0,0)),aA w.heap.size 1 (.slice (some ⟨db,df,none⟩) nd dc) nd (P.map fun p=>.int .i64 p),aA w.heap.size 2 (.slice ao2 (i+1) c8) (i+1) (pC (((P.take (i+1)).map (gZ G l us))))]) (aV HF8.o) (k:=1) rfl;have nx:=au HF8.o (k:=0) rfl;have hu8:ay w8 ub (uf+ix) (u64 S):=cell_below HF8.o.bel HUC.o;have HH9:w8.cell? ⟨W1.heap.size,0,none⟩=some (.slice io N ic)/\w8.cell? ⟨W1.heap.size,1,none⟩=some (.slice (some ⟨ub,uf,none⟩) N ac)/\w8.cell? ⟨wr.heap.size,0,none⟩=some (.int .i64 (j:Int))/\w8.cell? ⟨wr.heap.size,1,none⟩=some (.int .i64 (ln:Int))/\w8.cell? ⟨ub,uf+ix,none⟩=some (u64 S):=⟨ak n4 0,ak n4 1,ak nx 0,ak nx 1,hu8⟩;refine hK.out _ _ HH9 ?_;clear hK K' HH2 hown hg8 hat e9 h8 n4 nx;try simp only[Act.put,bP,bQ,bK]
    refine fQ (i:=13) rfl (by kernel_rfl) (fun K' hK=>?_);go_simp;refine hK.out _ _ (fun h=>absurd h (by decide)) ?_;clear hK K';try simp only[Act.put,bP,bQ,bK]
    refine aQ (by kernel_rfl) ?_ _;have HF9:=hid (aV HF8.o);clear HF8;go_wp2_with fail;refine⟨⟨i+1,_,by omega,rfl,rfl,HF9⟩,?_⟩;show nd-((i:Int)+1).toNat<nd-((i:Int)).toNat;omega
  ·have j1:¬ (i:Int)<(nd:Int):=by omega
   obtain rfl:i=nd:=by omega
   have HOW:=hid (show aI wr w.heap.size 2 _ _ _ from HF.o.ok 3 _ rfl);have HBE:=hid HF.o.bel;clear HF;go_wp2_with fail;go_ret;refine⟨_,rfl,HBE.o,?_⟩;have h1:=HOW.o;rw[List.take_of_length_le (by rw[HND.o];exact bJ _)]at h1;rw[HPP.o,List.length_map,HND.o];exact h1
open aO (It)
open aJ (u64)
def gI (B sz:Nat)(R:List (Value×Nat×List Value)):Item where
 bl:=R.flatMap fun r=>r.1.ownBlock.toList
 ok w:=∀ r∈R,aI w B sz r.1 r.2.1 r.2.2
 kept h hw r hr:=(hw r hr).kept fun g hg=>h g (List.mem_flatMap.2 ⟨r,hr,by rw[hg];simp⟩)
section
variable {B sz:Nat}{W w w':World}{l m:List Item}{v:Value}{n:Nat}{xs:List Value}{R:List (Value×Nat×List Value)}
theorem gI_bl:∀ b,b∈(gI B sz (R++[(v,n,xs)])).bl↔(b∈(gI B sz R).bl\/b∈v.ownBlock.toList):=fun b=>by
 show b∈(R++[(v,n,xs)]).flatMap _↔b∈R.flatMap _\/_;rw[List.flatMap_append,List.mem_append];simp
theorem mr (h:az B W w l):az B W w (l++[gI B sz []]):=
 h.add (gI B sz []) (eH _ _) (fun r hr=>by cases hr) (fun c hc=>by
  have:c∈([]:List (Value×Nat×List Value)).flatMap (fun r=>r.1.ownBlock.toList):=hc;simp at this)
theorem zO (h:az B W w (l++m)){k:Nat}(hk:m[k]?=some (gI B sz R))(hb:aj w w')(hr:aI w' B sz v n xs)(h1:∀ b∈v.ownBlock.toList,w.heap.size<=b/\b<w'.heap.size) :
  az B W w' (l++m.set k (gI B sz (R++[(v,n,xs)]))):=by
 have hkk:(l++m)[l.length+k]?=some (gI B sz R):=by rw[List.getElem?_append_right (Nat.le_add_right _ _),Nat.add_sub_cancel_left];exact hk
 have:=h.upd (l.length+k) hkk (gI B sz (R++[(v,n,xs)])) ((Touch.below hb).mono (by simp)) (fun q hq=>by
  rcases List.mem_append.1 hq with e | e
  ·exact((h.below hb).ok _ _ hkk) q e
  ·obtain rfl:q=(v,n,xs):=by simpa using e
   exact hr) (fun b hbm=>by
  rcases(gI_bl b).1 hbm with e | e
  ·have h5:=(h.lt _ _ hkk b e).2;have h6:=hb.size;exact⟨.inl e,by omega⟩
  ·exact⟨.inr (h1 b e).1,(h1 b e).2⟩)
 rw[List.set_append_right _ _ (Nat.le_add_right _ _),Nat.add_sub_cancel_left]at this;exact this
theorem kK (h:az B W w (l++[aA B sz v n xs,gI B sz R])):az B W w (l++[gI B sz (R++[(v,n,xs)])]):=by
 have hq:(l++[aA B sz v n xs,gI B sz R])[l.length]?=some (aA B sz v n xs):=by rw[List.getElem?_append_right (bJ _),Nat.sub_self];rfl
 have hg:(l++[aA B sz v n xs,gI B sz R])[l.length+1]?=some (gI B sz R):=by rw[List.getElem?_append_right (Nat.le_add_right _ _),Nat.add_sub_cancel_left];rfl
 have old:∀ (i:Nat) x,(l++[gI B sz (R++[(v,n,xs)])])[i]?=some x->(i<l.length/\(l++[aA B sz v n xs,gI B sz R])[i]?=some x)\/(i=l.length/\x=gI B sz (R++[(v,n,xs)])):=fun i x hx=>by
  by_cases hi:i<l.length
  ·rw[List.getElem?_append_left hi]at hx;exact .inl ⟨hi,by rw[List.getElem?_append_left hi];exact hx⟩
  ·rw[List.getElem?_append_right (by omega)]at hx;have hlt:=(List.getElem?_eq_some_iff.1 hx).1;have hlt:i-l.length<1:=hlt;obtain rfl:i=l.length:=by omega
   rw[Nat.sub_self]at hx;exact .inr ⟨rfl,(Option.some.inj hx).symm⟩
 have part:∀ b,b∈(gI B sz (R++[(v,n,xs)])).bl->b∈(gI B sz R).bl\/b∈(aA B sz v n xs).bl:=fun b hb=>(gI_bl b).1 hb;refine⟨h.bel,h.le,fun i x hx=>?_,fun i x hx b hb=>?_,fun i j x y b hx hy hbx hby=>?_⟩
 ·rcases old i x hx with⟨_,h1⟩ | ⟨_,rfl⟩
  ·exact h.ok i x h1
  ·intro r hr;rcases List.mem_append.1 hr with e | e
   ·exact(h.ok _ _ hg) r e
   ·obtain rfl:r=(v,n,xs):=by simpa using e
    exact h.ok _ _ hq
 ·rcases old i x hx with⟨_,h1⟩ | ⟨_,rfl⟩
  ·exact h.lt i x h1 b hb
  ·rcases part b hb with e | e
   ·exact h.lt _ _ hg b e
   ·exact h.lt _ _ hq b e
 ·rcases old i x hx with⟨hi,h1⟩ | ⟨hi,rfl⟩
  ·rcases old j y hy with⟨hj,h2⟩ | ⟨hj,rfl⟩
   ·exact h.apart i j x y b h1 h2 hbx hby
   ·exfalso;rcases part b hby with e | e
    ·have:=h.apart i _ x _ b h1 hg hbx e;omega
    ·have:=h.apart i _ x _ b h1 hq hbx e;omega
  ·rcases old j y hy with⟨hj,h2⟩ | ⟨hj,rfl⟩
   ·exfalso;rcases part b hbx with e | e
    ·have:=h.apart _ j _ y b hg h2 e hby;omega
    ·have:=h.apart _ j _ y b hq h2 e hby;omega
   ·omega
end
theorem LD:∀ (l:List It)(i:Nat),i<l.length->(dC l)[i*2]?=some (.int .i64 (l.getD i (0,0)).1)/\(dC l)[i*2+1]?=some (.int .i64 (l.getD i (0,0)).2)
 | [],i,h=>by simp at h
 | x::l,0,_=>⟨rfl,rfl⟩
 | x::l,i+1,h=>by
  obtain⟨h1,h2⟩:=LD l i (by simpa using h);have e:dC (x::l)=.int .i64 x.1::.int .i64 x.2::dC l:=rfl;rw[e,show(i+1)*2=i*2+1+1 from by omega,List.getElem?_cons_succ,List.getElem?_cons_succ,List.getElem?_cons_succ,List.getElem?_cons_succ];exact⟨by simpa using h1,by simpa using h2⟩
theorem aI.items {w:World}{B:Nat}{v:Value}{l:List It}(h:aI w B 2 v l.length (dC l)):aS w v l:=by
 obtain⟨hl,⟨rfl,h0⟩ | ⟨g,off,cap,rfl,_,_,h1,h2,h3,_⟩⟩:=h
 ·exact⟨none,0,by rw[h0],by omega,fun h=>absurd h (by omega)⟩
 ·refine⟨_,_,rfl,by unfold maxLen at h2;omega,fun _=>⟨g,off,rfl,fun i hi=>?_⟩⟩;obtain⟨k0,k1⟩:=LD l i hi;exact⟨h3 _ _ k0,by rw[Nat.add_assoc];exact h3 _ _ k1⟩
end Go.Proofs.YticmnfmijdgmbaaGreatDoor
