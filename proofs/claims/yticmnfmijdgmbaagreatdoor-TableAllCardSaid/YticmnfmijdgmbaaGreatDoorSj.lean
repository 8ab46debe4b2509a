import Derived.Deep.DeepMust
import Derived.LoopIn
import Derived.LoopNIn
import Derived.Outline
import Derived.OwnWalkIn
import Derived.RangeFuncBound
import Derived.RangeFuncLeaves
import Derived.RangeFuncNested
import Derived.Shelf.Abstract
import Derived.Shelf.RegionOpen
import Derived.TacticsInMore
import Derived.Test.YticmnfmijdgmbaaGreatDoorSb
set_option linter.all false
set_option maxRecDepth 100000
set_option maxHeartbeats 8000000
namespace Go.Proofs.YticmnfmijdgmbaaGreatDoor
open Go Go.RowKit Go.Lib
open aO (It ax bu aY)
theorem oz {G:GD}{w:World}{rv:Value}{p:Int}(h:dw w rv (ax G p)):∃ o c,rv=.slice o (ax G p).length c/\(ax G p).length<=9223372036854775807:=by
 obtain⟨⟨o,c,e,hl,_⟩,_⟩:=h;exact⟨o,c,e,hl⟩
theorem zg {G:GD}{gv:Value}{w:World}(h:fZ w gv G)(hv:aB G=true)(x:It) :
  Calls Tryz.prog 64 #[gv,mg x] w fun e w'=>e=.returned (.bool (bu G x))/\aj w w':=by
 have HGr:=hid h;have HV:=hid hv;obtain⟨tv,ov,sv,pv,tf,rv,h⟩:=h;obtain⟨W1,B,hW1,hB,c0,c1,c2,c3,c4,hG,hb,hsz⟩:=gU h;have hgv:=h.eq;subst hgv hB;have e1:=hW1.symm;obtain⟨W2,e2⟩:=ai (W1.alloc (.cells #[.int .i64 x.1,.int .i64 x.2] 60));have hb2:aj W1 W2:=dM e2;have n2:W2.heap[W1.heap.size]?=some (.cells #[.int .i64 x.1,.int .i64 x.2] 60 (0,0)):=by rw[<-e2];exact heap_alloc_new _ _
 obtain⟨pa,pc,rfl,hpn,hpc⟩:=hG.prods;have lW:W1.heap.size<W2.heap.size:=(dZ n2);have lB:w.heap.size<W1.heap.size:=World.block_lt_of_cell? W1 _ c3;have HB2:=hid (hb.trans (hb2.mono hsz));have f0:∀ w',aj W2 w'->w'.cell? ⟨W1.heap.size,0,none⟩=some (.int .i64 x.1):=fun w' hC=>cell_below hC (ak n2 0);have f1:∀ w',aj W2 w'->w'.cell? ⟨W1.heap.size,1,none⟩=some (.int .i64 x.2):=fun w' hC=>cell_below hC (ak n2 1);have f2:∀ w',aj W2 w'->w'.cell? ⟨w.heap.size,3,none⟩=some (.slice pa G.prods.length pc):=fun w' hC=>cell_below hC (cell_below hb2 c3);have g0:∀ w',aj W2 w'->w'.cell? ⟨w.heap.size,0,none⟩=some tv:=fun w' hC=>cell_below hC (cell_below hb2 c0);have g1:∀ w',aj W2 w'->w'.cell? ⟨w.heap.size,1,none⟩=some ov:=fun w' hC=>cell_below hC (cell_below hb2 c1);have g2:∀ w',aj W2 w'->w'.cell? ⟨w.heap.size,2,none⟩=some sv:=fun w' hC=>cell_below hC (cell_below hb2 c2);have g4:∀ w',aj W2 w'->w'.cell? ⟨w.heap.size,4,none⟩=some (.int .i64 G.start):=fun w' hC=>cell_below hC (cell_below hb2 c4);have HF0:=hid f0;have HF1:=hid f1;have HF2:=hid f2;have HGc:=hid (And.intro g0 (And.intro g1 (And.intro g2 g4)));have HTX:=hid (show bu G x=decide (-1<=x.1/\x.1<(G.prods.length:Int)/\0<=x.2/\x.2<=((ax G x.1).length:Int))from rfl);have hno:¬ (-1<=x.1/\x.1<(G.prods.length:Int)/\0<=x.2)->bu G x=false:=fun hn=>by rw[HTX.o];exact dA (fun h=>hn ⟨h.1,h.2.1,h.2.2.1⟩)
 have HNO:=hid hno;have HWG:=hid (show ∀ w',aj W2 w'->fZ w' (.agg #[tv,ov,sv,.slice pa G.prods.length pc,.int .i64 G.start]) G from fun w' hC=>HGr.o.below (HB2.o.trans (hC.mono HB2.o.size)));unfold mg;clear h hG hpc hW1 hb hb2 n2 c0 c1 c2 c3 c4 f0 f1 f2 g0 g1 g2 g4 hno HTX;obtain⟨a,b⟩:=x;dsimp only at *;by_cases h1:-1<=a/\a<(G.prods.length:Int)/\0<=b
 case neg =>
  rw[HNO.o h1];generalize G.prods.length=np at *;have hx:(¬ -1<=a)\/(-1<=a/\¬ a<(np:Int))\/(-1<=a/\a<(np:Int)/\¬ 0<=b):=by omega
  rcases hx with k1 | ⟨k1,k2⟩ | ⟨k1,k2,k3⟩
  ·have d1:decide (-1<=a)=false:=dA k1;clear HNO h1;go_enter Tryz.func64,Tryz.ntmps64;go_wp2_with fail;refine ah (by kernel_rfl) (by kernel_rfl) ?_;repeat(first
             | (refine BigFrame.wpQuiet_skip (by rfl) ?_;try simp only[Act.put,bP,bQ,bK])
             | (refine BigFrame.wpQuiet_want (by rfl) (fun K hK=>?_)
                apply Exists.intro;refine⟨fun w' hC=>?_,hK _ ?_⟩
                . first
                   | (have f0':=HF0.o w' hC
                      have f1':=HF1.o w' hC;have f2':=HF2.o w' hC;unfold Oper.quietAt;go_simp
                      first
                        | with_reducible rfl
                        | done)
                clear hK K;try simp only[Act.put,bP,bQ,bK]))
   refine wpQuiet_nil ?_;intro w6 hb6;have HB6:=fJ HB2 hb6;clear hb6;go_wp2_with fail;go_ret;exact⟨rfl,HB6.o⟩
  ·have d1:decide (-1<=a)=true:=eP k1;have d2:decide (a<(np:Int))=false:=dA k2;clear HNO h1;go_enter Tryz.func64,Tryz.ntmps64;go_wp2_with fail;refine ah (by kernel_rfl) (by kernel_rfl) ?_;repeat(first
             | (refine BigFrame.wpQuiet_skip (by rfl) ?_;try simp only[Act.put,bP,bQ,bK])
             | (refine BigFrame.wpQuiet_want (by rfl) (fun K hK=>?_)
                apply Exists.intro;refine⟨fun w' hC=>?_,hK _ ?_⟩
                . first
                   | (have f0':=HF0.o w' hC
                      have f1':=HF1.o w' hC;have f2':=HF2.o w' hC;unfold Oper.quietAt;go_simp
                      first
                        | with_reducible rfl
                        | done)
                clear hK K;try simp only[Act.put,bP,bQ,bK]))
   refine wpQuiet_nil ?_;intro w6 hb6;have HB6:=fJ HB2 hb6;clear hb6;go_wp2_with fail;go_ret;exact⟨rfl,HB6.o⟩
  ·have d1:decide (-1<=a)=true:=eP k1;have d2:decide (a<(np:Int))=true:=eP k2;have d3:decide (0<=b)=false:=dA k3;clear HNO h1;go_enter Tryz.func64,Tryz.ntmps64;go_wp2_with fail;refine ah (by kernel_rfl) (by kernel_rfl) ?_;repeat(first
             | (refine BigFrame.wpQuiet_skip (by rfl) ?_;try simp only[Act.put,bP,bQ,bK])
             | (refine BigFrame.wpQuiet_want (by rfl) (fun K hK=>?_)
                apply Exists.intro;refine⟨fun w' hC=>?_,hK _ ?_⟩
                . first
                   | (have f0':=HF0.o w' hC
                      have f1':=HF1.o w' hC;have f2':=HF2.o w' hC;unfold Oper.quietAt;go_simp
                      first
                        | with_reducible rfl
                        | done)
                clear hK K;try simp only[Act.put,bP,bQ,bK]))
   refine wpQuiet_nil ?_;intro w6 hb6;have HB6:=fJ HB2 hb6;clear hb6;go_wp2_with fail;go_ret;exact⟨rfl,HB6.o⟩
 obtain⟨k1,k2,k3⟩:=h1;have d1:decide (-1<=a)=true:=eP k1;have d2:decide (a<(G.prods.length:Int))=true:=eP k2;have d3:decide (0<=b)=true:=eP k3;have HT:=hid (show bu G (a,b)=decide (b<=((ax G a).length:Int))from by
  unfold bu;by_cases hh:b<=((ax G a).length:Int)
  ·rw[eP hh];exact eP ⟨k1,k2,k3,hh⟩
  ·rw[dA hh];exact dA (fun h=>hh h.2.2.2))
 rw[HT.o];obtain⟨rl,hrl⟩:=ai ((ax G a).length);have HRL:=hid hrl;rw[hrl];clear hrl;obtain⟨we,ewe⟩:=ai (W2.drew);have hbe:aj W2 we:=pW ewe;have HBE:=fJ HB2 hbe;have hS:∀ w',aj W2 w'->w'.cell? ⟨W1.heap.size,0,none⟩=some (.int .i64 a)/\w'.cell? ⟨W1.heap.size,1,none⟩=some (.int .i64 b)/\w'.cell? ⟨w.heap.size,3,none⟩=some (.slice pa G.prods.length pc)/\w'.cell? ⟨w.heap.size,0,none⟩=some tv/\w'.cell? ⟨w.heap.size,1,none⟩=some ov/\w'.cell? ⟨w.heap.size,2,none⟩=some sv/\w'.cell? ⟨w.heap.size,4,none⟩=some (.int .i64 G.start):=
  fun w' hC=>⟨HF0.o w' hC,HF1.o w' hC,HF2.o w' hC,HGc.o.1 w' hC,HGc.o.2.1 w' hC,HGc.o.2.2.1 w' hC,HGc.o.2.2.2 w' hC⟩
 have HH0:=hS we hbe;have HS:=hid hS;have KR:=hid (zu (HWG.o we hbe) HV.o (a,b) k1 k2);have hwe:=hbe.size;have HBe:=hid hbe;unfold mg at KR;dsimp only at KR;clear hS hbe HT HNO;generalize hnp:G.prods.length=np at *;clear hnp;go_enter Tryz.func64,Tryz.ntmps64;go_wp2_with fail;refine aW 25 (fun w'=>w'.cell? ⟨W1.heap.size,0,none⟩=some (.int .i64 a)/\w'.cell? ⟨W1.heap.size,1,none⟩=some (.int .i64 b)/\w'.cell? ⟨w.heap.size,3,none⟩=some (.slice pa np pc)/\w'.cell? ⟨w.heap.size,0,none⟩=some tv/\w'.cell? ⟨w.heap.size,1,none⟩=some ov/\w'.cell? ⟨w.heap.size,2,none⟩=some sv/\w'.cell? ⟨w.heap.size,4,none⟩=some (.int .i64 G.start)) (by kernel_rfl) (by rw[ewe];exact HH0) (fun inv hHeld=>?_);rw[ewe];clear hHeld ewe;iterate 21
  refine aF (v:=?_) rfl (by kernel_rfl) (fun _ _ _ h=>h) (Or.inl ⟨by rfl,?_⟩) HH0 inv (fun inv=>?_)
  rotate_left
  ·intro w hSw;try dsimp only at hSw
   go_simp;try with_reducible rfl
  simp only[Act.put,bP,bQ,bK]
 refine eu (i:=21) rfl (by kernel_rfl) (by decide) inv (fun inv K' hK=>?_);go_simp;refine KR.o.mono ?_;rintro e w6 ⟨rv,rfl,hrv,hb6⟩;obtain⟨ro,rc,rfl,hrn⟩:=oz hrv;rw[HRL.o]at hrn ⊢;have HB6:=hid (HBe.o.trans (hb6.mono hwe));have HH1:=HS.o w6 HB6.o;have HB7:=fJ HBE hb6;refine hK.out _ _ HH1 ?_;clear hK K' HH0 hb6 hrv KR;try simp only[Act.put,bP,bQ,bK]
 iterate 3
  refine aF (v:=?_) rfl (by kernel_rfl) (fun _ _ _ h=>h) (Or.inl ⟨by rfl,?_⟩) HH1 inv (fun inv=>?_)
  rotate_left
  ·intro w hSw;try dsimp only at hSw
   go_simp;try with_reducible rfl
  simp only[Act.put,bP,bQ,bK]
 refine fQ (i:=25) rfl (by kernel_rfl) (fun K' hK=>?_);go_simp;refine hK.out _ _ (fun h=>absurd h (by decide)) ?_;clear hK K';try simp only[Act.put,bP,bQ,bK]
 refine aQ (by kernel_rfl) ?_ _;go_wp2_with fail;go_ret;exact⟨rfl,HB7.o⟩
def BehP (G:GD)(x:It)(w:World)(e:Ending)(w':World):Prop:=e=.returned (.tuple #[.int .i64 ((aY G x).getD 0),.bool (aY G x).isSome])/\aj w w'
theorem tu {G:GD}{gv:Value}{w:World}(h:fZ w gv G)(hv:aB G=true)(x:It)(ht:bu G x=true) :
  Calls Tryz.prog 65 #[gv,mg x] w (BehP G x w):=by
 have HGr:=hid h;have HV:=hid hv;have hX:=aO.bW.1 ht;have HBX:=hid (show aY G x=(ax G x.1)[x.2.toNat]? from by unfold aY;rw[if_pos ht]);obtain⟨tv,ov,sv,pv,tf,rv,h⟩:=h;obtain⟨W1,B,hW1,hB,c0,c1,c2,c3,c4,hG,hb,hsz⟩:=gU h;have hgv:=h.eq;subst hgv hB;have e1:=hW1.symm;obtain⟨W2,e2⟩:=ai (W1.alloc (.cells #[.int .i64 x.1,.int .i64 x.2] 60));have hb2:aj W1 W2:=dM e2;have n2:W2.heap[W1.heap.size]?=some (.cells #[.int .i64 x.1,.int .i64 x.2] 60 (0,0)):=by rw[<-e2];exact heap_alloc_new _ _
 have lW:W1.heap.size<W2.heap.size:=(dZ n2);have HB2:=hid (hb.trans (hb2.mono hsz));have c0:=cell_below hb2 c0;have c1:=cell_below hb2 c1;have c2:=cell_below hb2 c2;have c3:=cell_below hb2 c3;have c4:=cell_below hb2 c4;have d0:ay W2 W1.heap.size 0 (.int .i64 x.1):=ak n2 0;have d1:ay W2 W1.heap.size 1 (.int .i64 x.2):=ak n2 1;have K:=hid (zu (HGr.o.below HB2.o) HV.o x hX.1 hX.2.1);have D1:=hid d1;unfold mg at K ⊢;clear h hG hW1 hb hb2 n2 ht;obtain⟨a,b⟩:=x;dsimp only at *;go_enter Tryz.func65,Tryz.ntmps65;go_wp2_with fail;refine K.o.mono ?_;rintro e w3 ⟨rv,rfl,hrv,hb3⟩;have HRV:=hid hrv;obtain⟨ro,rc,rfl,hrn⟩:=oz hrv;have d1:=cell_below hb3 D1.o;have HB3:=fJ HB2 hb3;clear hb3 hrv K d0 c0 c1 c2 c3 c4;obtain⟨n,rfl⟩:∃ n:Nat,b=(n:Int):=⟨b.toNat,by omega⟩;rw[Int.toNat_natCast]at HBX;by_cases he:n=(ax G a).length
 ·have HBN:=hid (show aY G (a,(n:Int))=none from by rw[HBX.o];exact List.getElem?_eq_none (by omega));clear HBX;subst he;go_wp2_with fail;refine bodyPost_ret (results_tmp2 rfl _ _ _) rfl ?_;refine⟨?_,HB3.o⟩;rw[HBN.o];rfl
 ·have hlt:n<(ax G a).length:=by omega
  obtain⟨⟨ro',rc',hro,_,hcs⟩,_⟩:=HRV.o;obtain⟨b0,off,e,hcq⟩:=hcs (by omega);injection hro with hr1 hr2 hr3;subst hr1;subst e;have cs:ay w3 b0 (off+n) (.int .i64 ((ax G a).getD n 0)):=hcq n hlt;have hget:(ax G a).getD n 0=(ax G a)[n]:=by rw[dL,dH hlt];rfl
  rw[hget]at cs;have HBN:=hid (show aY G (a,(n:Int))=some (ax G a)[n]from by rw[HBX.o];exact dH hlt);generalize (ax G a)[n]=y at *;have n0:(0:Int)<=(n:Int):=by omega
  have n1:(n:Int)<((ax G a).length:Int):=by omega
  have t0:((n:Int) == ((ax G a).length:Int))=false:=by rw[beq_eq_false_iff_ne];omega
  clear HBX hcs hcq HRV hget;go_wp2_with fail;refine bodyPost_ret (results_tmp2 rfl _ _ _) rfl ?_;refine⟨?_,HB3.o⟩;rw[HBN.o];rfl
open Go Go.RowKit Go.Shelf Go.Lib
open aO (It jc bg)
attribute [local go_sem] Oper.semAt_some
theorem cell1 {w:World}{b:Nat}{v:Value}{e:TypeId}(h:w.heap[b]?=some (.cells #[v] e (0,0))):w.cell? ⟨b,0,none⟩=some v:=ak h 0
structure iZ (m:Nat) (T:List Nat) (W W':World):Prop where
 os:W'.os=W.os
 tape:W'.tape=W.tape
 output:W'.output=W.output
 size:W.heap.size<=W'.heap.size
 block:∀ g,g<m->g∉T->W'.heap[g]?=W.heap[g]?
theorem iZ.refl (m:Nat)(T:List Nat)(W:World):iZ m T W W:=⟨rfl,rfl,rfl,bJ _,fun _ _ _=>rfl⟩
theorem iZ.trans {m:Nat}{T:List Nat}{A B C:World}(h:iZ m T A B)(k:iZ m T B C):iZ m T A C:=⟨k.os.trans h.os,k.tape.trans h.tape,k.output.trans h.output,eX h.size k.size,fun g h1 h2=>(k.block g h1 h2).trans (h.block g h1 h2)⟩
theorem iZ.below {m:Nat}{T:List Nat}{A B C:World}(h:iZ m T A B)(hm:m<=B.heap.size)(k:aj B C):iZ m T A C:=h.trans ⟨k.os,k.tape,k.output,k.size,fun g h1 _=>k.block g (by omega)⟩
theorem iZ.bel {m n:Nat}{T:List Nat}{A B C:World}(h:iZ m T B C)(k:Below n A B)(hn:n<=m)(hb:∀ b∈T,n<=b):Below n A C:=⟨h.os.trans k.os,h.tape.trans k.tape,h.output.trans k.output,eX k.size h.size,fun g hg=>(h.block g (by omega) (fun hm=>by have:=hb g hm;omega)).trans (k.block g hg)⟩
def encB (x:It):Array Value:=#[.agg #[.int .i64 x.1,.int .i64 x.2]]
theorem I5 (n:Nat)(tv ov sv pv:Value)(st t:Int)(w:World) :
  CallsIn Fence.wide n Tryz.prog 105 #[.agg #[tv,ov,sv,pv,.int .i64 st],.int .i64 t] w fun e w'=>e=.returned (.func (.func 127) #[] #[.pointer (some ⟨w.heap.size,0,none⟩),.pointer (some ⟨w.heap.size+1,0,none⟩)])/\w'=(w.alloc (.cells #[tv,ov,sv,pv,.int .i64 st] 27)).alloc (.cells #[.int .i64 t] 3):=by
 refine callsIn_of_wp Tryz.func105 rfl trivial ?_ rfl;simp only[Tryz.ntmps105,List.size_toArray,List.length_cons,List.length_nil,Nat.reduceAdd,Nat.reduceSub,Array.replicate_succ,Array.replicate_zero,List.push_toArray,List.append_toArray,List.nil_append,List.cons_append]
 gi_wp2
 go_ret;exact⟨rfl,rfl⟩
theorem Fq (n:Nat)(hn:1<=n){G:GD}{tv ov sv pv:Value}(w0:World)(hG:fZ w0 (.agg #[tv,ov,sv,pv,.int .i64 G.start]) G)(hp:G.prods.length<=1000)(T:List Nat)(bG bS t:Nat)(wS:World)(hw:aj w0 wS)
  (h4:wS.heap[bG]?=some (.cells #[tv,ov,sv,pv,.int .i64 G.start] 27 (0,0))) (hS:wS.heap[bS]?=some (.cells #[.int .i64 (t:Int)] 3 (0,0))) (hT:∀ b∈T,w0.heap.size<=b/\b≠bG/\b≠bS) (h0S:w0.heap.size<=wS.heap.size) :
  SeqStopsK Fence.wide n Tryz.prog 127 #[.pointer (some ⟨bG,0,none⟩),.pointer (some ⟨bS,0,none⟩)] encB (iZ wS.heap.size T) (fun xs=>xs=jc G t G.prods.length) (fun _=>True) (G.prods.length+1) wS:=fun l J Jx W hW hJ hJx hY h0=>by
 have HY:=hid hY;have HJ0:=hid hJ;have HKW:=hid ((iZ.refl wS.heap.size T wS).below (bJ _) hW);have l4:=(dZ h4);have lS:=(dZ hS);have HB:=hid (fun(wr:World) (h:iZ wS.heap.size T wS wr)=>And.intro ((h.block bG l4 (fun hm=>(hT bG hm).2.1 rfl)).trans h4) (And.intro ((h.block bS lS (fun hm=>(hT bS hm).2.2 rfl)).trans hS) (hG.below (h.bel hw h0S (fun b hb=>(hT b hb).1)))));have HM:=hid (fun(wr:World) (h:iZ wS.heap.size T wS wr)=>h.size);obtain⟨tv',ov',sv',pv',tf,rv,hgr⟩:=hG;have hpv:=hgr.prods;have heq:=hgr.eq;injection heq with heq;injection heq with heq;simp only[List.cons.injEq,and_true]at heq;obtain⟨rfl,rfl,rfl,rfl⟩:=heq;obtain⟨pa,pc,rfl,hpn,_⟩:=hpv;obtain⟨np,hnp⟩:=ai (G.prods.length);have HNP:=hid hnp;rw[hnp]at hp hpn h4 HB ⊢;clear hgr h4 hS hT hw l4 lS hJ hJx hY hnp hW;refine callsIn_of_wp Tryz.func127 rfl trivial ?_ rfl;simp only[Tryz.ntmps127,List.size_toArray,List.length_cons,List.length_nil,Nat.reduceAdd,Nat.reduceSub,Array.replicate_succ,Array.replicate_zero,List.push_toArray,List.append_toArray,List.nil_append,List.cons_append];have c3:ay W bG 3 (.slice pa np pc):=ak (HB.o W HKW.o).1 3
 gi_wp2
 clear c3
 gi_loopw [4,5,9] (fun i4 i5 i9 wr=>∃ j:Nat,j<=np/\i9=.int .i64 (j:Int)/\Hid (iZ wS.heap.size T wS wr)/\Hid (J (jc G t j) wr)) (fun _ _ i9 _=>np-(intOf i9).toNat)
 case atStart=>exact⟨0,Nat.zero_le _,rfl,HKW,hid h0⟩
 case round =>
  obtain⟨j,hj,rfl,HK,HJ⟩:=hrel;have hle:=HM.o wr HK.o;by_cases hlt:j<np
  ·have t1:(j:Int)<(np:Int):=by omega
   have t2:(0:Int)<=(j:Int):=by omega
   obtain⟨hb4,hbS,hgw⟩:=HB.o wr HK.o;obtain⟨tv',ov',sv',pv',tf,rv,hgr⟩:=hgw;have heq:=hgr.eq;injection heq with heq;injection heq with heq;simp only[List.cons.injEq,and_true]at heq;obtain⟨rfl,rfl,rfl,rfl⟩:=heq;have hjp:j<G.prods.length:=by rw[HNP.o];exact hlt
   obtain⟨pa',pc',he,_,hcs⟩:=hgr.prods;injection he with he1 he2 he3;subst he1;obtain⟨pb,po,hpe,hcq⟩:=hcs (by omega);subst hpe;obtain⟨q0,q1,q2,q3⟩:=hcq j hjp;obtain⟨⟨ra,rc,hrv,_,_⟩,_⟩:=hgr.rights j hjp;rw[hrv]at q2;obtain⟨rn,hrn⟩:=ai ((G.prods.getD j default).rs.length);rw[hrn]at q2;obtain⟨lab,hlab⟩:=ai ((G.prods.getD j default).lab);rw[hlab]at q0;obtain⟨so,hso⟩:=ai ((G.prods.getD j default).sort);rw[hso]at q1;have HSO:=hid (show bg G j=so from hso);obtain⟨cl,hcl⟩:=ai ((G.prods.getD j default).cls);rw[hcl]at q3;obtain⟨wx,ex⟩:=ai (wr.alloc (.cells #[.string ⟨#[]⟩,.int .i64 0,.slice none 0 0,.int .i64 0] 71));have hbx:aj wr wx:=dM ex;have nx:wx.heap[wr.heap.size]?=some (.cells #[.string ⟨#[]⟩,.int .i64 0,.slice none 0 0,.int .i64 0] 71 (0,0)):=dO ex;obtain⟨wa,ea⟩:=ai (wx.setCell ⟨wr.heap.size,0,none⟩ (.string lab));obtain⟨wb,eb⟩:=ai (wa.setCell ⟨wr.heap.size,1,none⟩ (.int .i64 so));obtain⟨wc,ec⟩:=ai (wb.setCell ⟨wr.heap.size,2,none⟩ (.slice ra rn rc));obtain⟨wd,ed⟩:=ai (wc.setCell ⟨wr.heap.size,3,none⟩ (.int .i64 cl));have na:wa.heap[wr.heap.size]?=some (.cells #[.string lab,.int .i64 0,.slice none 0 0,.int .i64 0] 71 (0,0)):=dK ea nx;have nb:wb.heap[wr.heap.size]?=some (.cells #[.string lab,.int .i64 so,.slice none 0 0,.int .i64 0] 71 (0,0)):=dK eb na;have nc:wc.heap[wr.heap.size]?=some (.cells #[.string lab,.int .i64 so,.slice ra rn rc,.int .i64 0] 71 (0,0)):=dK ec nb;have nd:wd.heap[wr.heap.size]?=some (.cells #[.string lab,.int .i64 so,.slice ra rn rc,.int .i64 cl] 71 (0,0)):=dK ed nc;have hbd:aj wr wd:=by
    rw[<-ed,<-ec,<-eb,<-ea];exact(((hbx.setCell (bJ _) _).setCell (bJ _) _).setCell (bJ _) _).setCell (bJ _) _
   have c0:ay wx wr.heap.size 0 (.string ⟨#[]⟩):=ak nx 0;have f0:=bY nx 0;have c1:ay wa wr.heap.size 1 (.int .i64 0):=ak na 1;have f1:=bY na 1;have c2:ay wb wr.heap.size 2 (.slice none 0 0):=ak nb 2;have f2:=bY nb 2;have c3:ay wc wr.heap.size 3 (.int .i64 0):=ak nc 3;have f3:=bY nc 3;have cd:ay wd wr.heap.size 1 (.int .i64 so):=ak nd 1;have cS:ay wd bS 0 (.int .i64 (t:Int)):=iM hbd (dZ hbS) (cell1 hbS);have HK2:=hid (HK.o.below hle hbd);have HJ2:=hid (HJ0.o _ _ _ none HJ.o ⟨hbd.os,hbd.tape,hbd.output,hbd.size,fun g hg _=>hbd.block g hg⟩ (fun r e=>by cases e));clear hgr hcs hcq hrv hrn hlab hso hcl hbx nx na nb nc nd hbd hb4 hbS he2 he3 HJ HK;by_cases hst:so=(t:Int)
   ·have hpre:=aO.wG G t j;rw[HSO.o,if_pos hst]at hpre;obtain⟨fn,tmps,assign,body,hy,hR⟩:=HY.o _ ((j:Int),0) wd HJ2.o (by
     have:(jc G t j).length<=j:=by
      unfold aO.jc;rw[List.length_map];exact eX (List.length_filter_le _ _) (by simp)
     have:=HNP.o;omega)
    rw[<-hpre]at hR;have hen:encB ((j:Int),0)=#[.agg #[.int .i64 (j:Int),.int .i64 0]]:=rfl;rw[hen]at hy;have HR:=hid hR;have t0:(so == (t:Int))=true:=by simpa using hst
    clear hR hen hpre;subst hst
    gi_wp2_with fail
    refine HR.o.mono ?_;rintro e W3 (⟨rfl,hJ3,hk3⟩ | ⟨rfl,hJx3⟩)
    ·have HJ3:=hid hJ3;have HK3:=hid (HK2.o.trans hk3);clear hJ3 hk3 c0 c1 c2 c3 f0 f1 f2 f3 cd cS q0 q1 q2 q3 ex ea eb ec ed hy
     gi_wp2_with fail
     refine⟨⟨j+1,by omega,rfl,HK3,HJ3⟩,?_⟩;show np-((j:Int)+1).toNat<np-((j:Int)).toNat;omega
    ·gi_wp2_with fail
     refine bodyPost_ret (results_none rfl _ _ _) rfl ?_;exact⟨⟨_,rfl⟩,.inr ⟨_,trivial,hJx3⟩⟩
   ·have t0:(so == (t:Int))=false:=(by simpa using hst);have hpre:=aO.wG G t j;rw[HSO.o,if_neg hst,List.append_nil]at hpre;have HP:=hid hpre;clear hpre;have HJ3:=hid (show J (jc G t (j+1)) wd from by rw[HP.o];exact HJ2.o)
    gi_wp2_with fail
    first
      | refine⟨fun _ h=>(by cases h),?_⟩
      | skip
    gi_wp2_with fail
    refine⟨⟨j+1,by omega,rfl,HK2,HJ3⟩,?_⟩;show np-((j:Int)+1).toNat<np-((j:Int)).toNat;omega
  ·have t1:¬ (j:Int)<(np:Int):=by omega
   have hjj:j=np:=by omega
   have HJJ:=hid hjj;clear hjj
   gi_wp2_with fail
   go_end0
   have hend:=HJ.o;rw[HJJ.o]at hend
   first
     | exact⟨⟨_,rfl⟩,.inl ⟨_,rfl,hend⟩⟩
     | exact⟨⟨_,rfl⟩,.inl hend⟩
open aO (It)
theorem info4:(Tryz.prog.info? 4).map (fun i=>(i.zero,i.size,i.bytes))=some (some (.bool false),1,1):=by kernel_rfl
theorem o9 (n:Nat)(hn:n<=1000000)(w:World):(Instr.makeSlice 75 (.int .i64 (n:Int)) (.int .i64 (n:Int))).run Tryz.prog w=.ok (.slice (some ⟨w.heap.size,0,none⟩) n n) (w.alloc (.cells (Array.replicate n (.bool false)) 4)):=by
 obtain⟨i0,hi,hz0,hz1,hz2⟩:=info_parts info4;have:=run_makeSlice (P:=Tryz.prog) (w:=w) 75 4 i0 (.bool false) Tryz.underlying75 hi hz0 .i64 .i64 (n:Int) (n:Int) (by omega) (by omega) (by rw[hz1];omega) (by rw[hz2];omega) (by omega);rw[this,hz1];have e:madeCells (Value.bool false).cells ((n:Int).toNat*1)=Array.replicate n (.bool false):=by
  rw[Int.toNat_natCast,Nat.mul_one];refine Array.ext (by simp[madeCells]) fun i h1 h2=>?_;simp[madeCells,Value.cells,Nat.mod_one]
 rw[e,Int.toNat_natCast]
theorem EU (n:Nat)(hn:n<=1000000)(w:World):(Instr.makeSlice 45 (.int .i64 0) (.int .i64 (n:Int))).run Tryz.prog w=.ok (.slice (some ⟨w.heap.size,0,none⟩) 0 n) (w.alloc (.cells (Array.replicate (n*2) (.int .i64 0)) 60)):=by
 obtain⟨i0,hi,hz0,hz1,hz2⟩:=info_parts Bo;have:=run_makeSlice (P:=Tryz.prog) (w:=w) 45 60 i0 (.agg #[.int .i64 0,.int .i64 0]) Tryz.underlying45 hi hz0 .i64 .i64 (0:Int) (n:Int) (by omega) (by omega) (by rw[hz1];omega) (by rw[hz2];omega) (by omega);rw[this,hz1];have e:madeCells (Value.agg #[.int .i64 0,.int .i64 0]).cells ((n:Int).toNat*2)=Array.replicate (n*2) (.int .i64 0):=by
  rw[Int.toNat_natCast];have e2:(Value.agg #[.int .i64 0,.int .i64 0]).cells=#[.int .i64 0,.int .i64 0]:=rfl;rw[e2];refine Array.ext (by simp[madeCells]) fun i h1 h2=>?_;simp[madeCells];rcases Nat.mod_two_eq_zero_or_one i with hm | hm<;>simp[hm]
 rw[e,Int.toNat_natCast];rfl
def aS (w:World)(v:Value)(l:List It):Prop:=eU v l.length (fun i b off=>w.cell? ⟨b,off+i*2,none⟩=some (.int .i64 (l.getD i (0,0)).1)/\w.cell? ⟨b,off+i*2+1,none⟩=some (.int .i64 (l.getD i (0,0)).2))
theorem aS.below {w w':World}{v:Value}{l:List It}(h:aS w v l)(hb:aj w w'):aS w' v l:=eU.mono h fun _ _ _ ⟨h1,h2⟩=>⟨cell_below hb h1,cell_below hb h2⟩
structure Out (w0 w:World) (bo:Nat) (O:List It) (g c:Nat):Prop where
 box:w.heap[bo]?=some (.cells #[.slice (some ⟨g,0,none⟩) O.length c] 45 (0,0))
 own:w.ownsRow w0.heap.size 60 2 (.slice (some ⟨g,0,none⟩) O.length c) O.length (icells O)
 ne:g≠bo
 bel:aj w0 w
 ge:w0.heap.size<=bo
theorem Out.lt {w0 w:World}{bo g c:Nat}{O:List It}(h:Out w0 w bo O g c):w0.heap.size<=g/\g<w.heap.size/\bo<w.heap.size:=⟨(iF h.own g rfl).1,(iF h.own g rfl).2,(dZ h.box)⟩
theorem Out.keep {w0 w w':World}{bo g c:Nat}{O:List It}(h:Out w0 w bo O g c)(h1:w'.heap[bo]?=w.heap[bo]?)(h2:w'.heap[g]?=w.heap[g]?)(hb:aj w0 w'):Out w0 w' bo O g c:=
 ⟨h1.trans h.box,jJ h.own fun q hq=>by injection hq with hq;subst hq;exact h2,h.ne,hb,h.ge⟩
theorem Out.below {w0 w w':World}{bo g c:Nat}{O:List It}(h:Out w0 w bo O g c)(hb:aj w w'):Out w0 w' bo O g c:=
 h.keep (hb.block _ h.lt.2.2) (hb.block _ h.lt.2.1) (h.bel.trans (hb.mono (h.bel.size)))
theorem Out.cap {w0 w:World}{bo g c:Nat}{O:List It}(h:Out w0 w bo O g c):O.length<=c/\c<=9223372036854775807:=by
 rcases h.own.2 with⟨e,_⟩ | ⟨g',cap,cur,e,_,_,h2,h3,_⟩
 ·cases e
 ·injection e with _ _ e;subst e;exact⟨h2,h3⟩
theorem Out.push {w0 w w2:World}{bo g c:Nat}{O:List It}{x:It}{v':Value}(h:Out w0 w bo O g c)(hown:w2.ownsRow w0.heap.size 60 2 v' (O.length+1) (icells O++[.int .i64 x.1,.int .i64 x.2]))(hg:w.grownBy w2 (some g))(hat:v'.ownBlock=some g\/v'.ownBlock=some w.heap.size) :
  ∃ g' c',v'=.slice (some ⟨g',0,none⟩) (O.length+1) c'/\w2.heap[bo]?=some (.cells #[.slice (some ⟨g,0,none⟩) O.length c] 45 (0,0))/\Out w0 (w2.setCell ⟨bo,0,none⟩ v') bo (O++[x]) g' c'/\(g'=g\/g'=w.heap.size) /\
   ∀ (m:Nat) (T:List Nat),m<=w.heap.size->bo∈T->(g∈T\/m<=g)->iZ m T w (w2.setCell ⟨bo,0,none⟩ v'):=by
 obtain⟨o,c',rfl⟩:=bF hown;obtain⟨g',rfl⟩:∃ g',o=some ⟨g',0,none⟩:=by
  rcases hown.2 with⟨e,h0⟩ | ⟨g',_,_,e,_⟩
  ·omega
  ·injection e with e;exact⟨g',e⟩
 have hgg:g'=g\/g'=w.heap.size:=hat.imp (fun e=>Option.some.inj e) (fun e=>Option.some.inj e);have hlt:=h.lt;have hbo:w2.heap[bo]?=some (.cells #[.slice (some ⟨g,0,none⟩) O.length c] 45 (0,0)):=(hg.block bo hlt.2.2 (fun e=>h.ne (Option.some.inj e).symm)).trans h.box;have hne:g'≠bo:=by
  rcases hgg with e | e
  ·rw[e];exact h.ne
  ·rw[e];omega
 have hb2:aj w0 w2:=h.bel.grown hg h.bel.size (fun k e=>by injection e with e;subst e;exact hlt.1);refine⟨g',c',rfl,hbo,⟨?_,?_,hne,hb2.setCell h.ge _,h.ge⟩,hgg,fun m T hm hbT hgT=>⟨hg.os,hg.tape,hg.output,by rw[World.size_setCell];exact hg.size,fun q hq hqT=>?_⟩⟩
 ·rw[heap_setCell_same w2 bo 0 _ 45 _ hbo,List.length_append];rfl
 ·rw[List.length_append,qE];exact jJ hown fun q hq=>by
   injection hq with hq;subst hq;exact Below.heap_setCell _ _ _ _ hne
 ·have h1:q≠bo:=fun e=>hqT (e▸hbT);have h2:q≠g:=fun e=>by
   rcases hgT with h3 | h3
   ·exact hqT (e▸h3)
   ·omega
  exact(Below.heap_setCell _ _ _ _ h1).trans (hg.block q (Nat.lt_of_lt_of_le hq hm) (fun e=>h2 (Option.some.inj e)))
abbrev markD (D:Nat):Deferred:={target:=.collected D,args:=#[]}
theorem ul {F:Fence}{n:Nat}{fn:Func}{tmps:Array Value}{R:Ending->World->Prop} : ∀ (ds:List Nat) (w:World),ds.Nodup->(∀ D∈ds,w.heap[D]?=some (.deferred (some []))) ->
  (∀ w',(∀ g,g∉ds->w'.heap[g]?=w.heap[g]?)->w'.heap.size=w.heap.size->w'.os=w.os->w'.tape=w.tape->w'.output=w.output->LeavesIn F n Tryz.prog fn tmps R [] .returning w') ->
  LeavesInM F n Tryz.prog fn tmps R (ds.map markD) .returning w
 | [],w,_,_,h=>h w (fun _ _=>rfl) rfl rfl rfl rfl
 | D::ds,w,hn,hd,h=>by
  obtain⟨n1,n2⟩:=List.nodup_cons.1 hn;refine⟨by simp,.inl ⟨D,_,rfl,run_takeDeferred (hd D (by simp)),?_⟩⟩;refine ul ds _ n2 (fun E hE=>?_) fun w' a1 a2 a3 a4 a5=>h w' (fun g hg=>?_) ?_ a3 a4 a5
  ·have hne:E≠D:=fun e=>n1 (e▸hE);rw[World.putObj_heap_other (by omega)];exact hd E (by simp[hE])
  ·have hne:g≠D:=fun e=>hg (by simp[e]);rw[a1 g (fun hm=>hg (by simp[hm])),World.putObj_heap_other (by omega)]
  ·rw[a2];simp
end Go.Proofs.YticmnfmijdgmbaaGreatDoor
