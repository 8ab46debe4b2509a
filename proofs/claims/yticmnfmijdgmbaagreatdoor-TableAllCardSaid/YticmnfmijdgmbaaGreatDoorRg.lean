import Derived.Test.YticmnfmijdgmbaaGreatDoorRa
set_option linter.all false
set_option maxRecDepth 100000
set_option maxHeartbeats 8000000
namespace Go.Proofs.YticmnfmijdgmbaaGreatDoor
open Go Go.RowKit Go.Lib
open aO (It ax bu aY)
def ww (G:GD)(x:It):Bool:=aB G && bu G x
def jZ (G:GD)(x:It):Option Int:=if aB G=true then aY G x else none
theorem Hl {G:GD}{gv:Value}{w:World}(h:fZ w gv G)(x:It) :
  Calls Tryz.prog 57 #[gv,mg x] w fun e w'=>e=.returned (.bool (ww G x))/\aj w w':=by
 have HGr:=hid h;obtain⟨tv,ov,sv,pv,tf,rv,h⟩:=h;obtain⟨W1,B,hW1,hB,c0,c1,c2,c3,c4,hG,hb,hsz⟩:=gU h;have hgv:=h.eq;subst hgv hB;have e1:=hW1.symm;obtain⟨W2,e2⟩:=ai (W1.alloc (.cells #[.int .i64 x.1,.int .i64 x.2] 110));have hb2:aj W1 W2:=dM e2;have n2:W2.heap[W1.heap.size]?=some (.cells #[.int .i64 x.1,.int .i64 x.2] 110 (0,0)):=by rw[<-e2];exact heap_alloc_new _ _
 obtain⟨pa,pc,rfl,hpn,hpc⟩:=hG.prods;have lW:W1.heap.size<W2.heap.size:=(dZ n2);have lB:w.heap.size<W1.heap.size:=World.block_lt_of_cell? W1 _ c3;have HB2:=hid (hb.trans (hb2.mono hsz));have c0:=cell_below hb2 c0;have c1:=cell_below hb2 c1;have c2:=cell_below hb2 c2;have c3:=cell_below hb2 c3;have c4:=cell_below hb2 c4;have HN2:=hid n2;have HC:=hid (And.intro c0 (And.intro c1 (And.intro c2 (And.intro c3 c4))));have hfin:∀ (W3:World),aj W2 W3->fZ W3 (.agg #[tv,ov,sv,.slice pa G.prods.length pc,.int .i64 G.start]) G:=fun W3 hC=>HGr.o.below (HB2.o.trans (hC.mono HB2.o.size));have HWG:=hid hfin;have KV:=hid (tH (hG.mono hb2));obtain⟨vv,hvv⟩:=ai (aB G);have HVV:=hid hvv;rw[hvv]at KV;unfold mg;clear h hG hpc hW1 hb hb2 n2 hfin hvv;obtain⟨a,b⟩:=x;dsimp only at *;have HTX:=hid (show ww G (a,b)=(vv && decide (-1<=a/\a<(G.prods.length:Int)/\0<=b/\b<=((ax G a).length:Int)))from by unfold ww;rw[HVV.o];rfl);obtain⟨IV,hIV⟩:=ai (ww G (a,b));rw[hIV]at HTX;rw[hIV];clear hIV;go_enter Tryz.func57,Tryz.ntmps57;go_wp2_with fail;refine KV.o.mono ?_;rintro e w3 ⟨rfl,hb3⟩;have HB3:=fJ HB2 hb3;have n3:=(hb3.block _ lW).trans HN2.o;have HF0:Hid (∀ w',aj w3 w'->w'.cell? ⟨W1.heap.size,0,none⟩=some (.int .i64 a)):=hid fun w' hC=>cell_below hC (ak n3 0);have HF1:Hid (∀ w',aj w3 w'->w'.cell? ⟨W1.heap.size,1,none⟩=some (.int .i64 b)):=hid fun w' hC=>cell_below hC (ak n3 1);have HF2:Hid (∀ w',aj w3 w'->w'.cell? ⟨w.heap.size,3,none⟩=some (.slice pa G.prods.length pc)):=hid fun w' hC=>cell_below hC (cell_below hb3 HC.o.2.2.2.1);have hgg:∀ w',aj w3 w'->w'.cell? ⟨w.heap.size,0,none⟩=some tv/\w'.cell? ⟨w.heap.size,1,none⟩=some ov/\w'.cell? ⟨w.heap.size,2,none⟩=some sv/\w'.cell? ⟨w.heap.size,4,none⟩=some (.int .i64 G.start):=fun w' hC =>
  ⟨cell_below hC (cell_below hb3 HC.o.1),cell_below hC (cell_below hb3 HC.o.2.1),cell_below hC (cell_below hb3 HC.o.2.2.1),cell_below hC (cell_below hb3 HC.o.2.2.2.2)⟩
 have HGc:=hid hgg;have HW3:=hid (show ∀ w',aj w3 w'->fZ w' (.agg #[tv,ov,sv,.slice pa G.prods.length pc,.int .i64 G.start]) G from fun w' hC=>HWG.o w' (hb3.trans (hC.mono hb3.size)));have hl3:w.heap.size<w3.heap.size:=by have:=hb3.size;omega
 clear hb3 n3 hgg KV e1 e2 c0 c1 c2 c3 c4 HC HWG;cases vv
 ·obtain rfl:false=IV:=HTX.o.symm;clear HTX;go_wp2_with fail;refine ah (by kernel_rfl) (by kernel_rfl) ?_;iterate 30
   first
   | with_reducible refine BigFrame.wpQuiet_skip (by with_unfolding_all rfl) ?_
   | with_reducible refine BigFrame.wpQuiet_want (by kernel_rfl) (fun K hK=>?_)
     apply Exists.intro;refine⟨fun w' hC=>?_,hK _ ?_⟩
     ·unfold Oper.quietAt;go_simp
      first | with_reducible rfl | done
     clear hK K
   try simp only[Act.put,bP,bQ,bK]
  refine wpQuiet_nil ?_;intro w6 hb6;have HB6:=fJ HB3 hb6;clear hb6;go_wp2_with fail;go_ret;exact⟨rfl,HB6.o⟩
 rw[Bool.true_and]at HTX;by_cases h1:-1<=a/\a<(G.prods.length:Int)/\0<=b
 case neg =>
  obtain rfl:false=IV:=by rw[HTX.o];exact(dA (fun h=>h1 ⟨h.1,h.2.1,h.2.2.1⟩)).symm
  clear HTX;generalize G.prods.length=np at *;have hx:(¬ -1<=a)\/(-1<=a/\¬ a<(np:Int))\/(-1<=a/\a<(np:Int)/\¬ 0<=b):=by omega
  have HTX:=hid trivial;clear h1;rcases hx with k1 | ⟨k1,k2⟩ | ⟨k1,k2,k3⟩
  ·have d1:decide (-1<=a)=false:=dA k1;clear HTX;go_wp2_with fail;refine ah (by kernel_rfl) (by kernel_rfl) ?_;iterate 30
    first
    | with_reducible refine BigFrame.wpQuiet_skip (by with_unfolding_all rfl) ?_
    | with_reducible refine BigFrame.wpQuiet_want (by kernel_rfl) (fun K hK=>?_)
      apply Exists.intro;refine⟨fun w' hC=>?_,hK _ ?_⟩
      ·have f0':=HF0.o w' hC;have f1':=HF1.o w' hC;have f2':=HF2.o w' hC;unfold Oper.quietAt;go_simp
       first | with_reducible rfl | done
      clear hK K
    try simp only[Act.put,bP,bQ,bK]
   refine wpQuiet_nil ?_;intro w6 hb6;have HB6:=fJ HB3 hb6;clear hb6;go_wp2_with fail;go_ret;exact⟨rfl,HB6.o⟩
  ·have d1:decide (-1<=a)=true:=eP k1;have d2:decide (a<(np:Int))=false:=dA k2;clear HTX;go_wp2_with fail;refine ah (by kernel_rfl) (by kernel_rfl) ?_;iterate 30
    first
    | with_reducible refine BigFrame.wpQuiet_skip (by with_unfolding_all rfl) ?_
    | with_reducible refine BigFrame.wpQuiet_want (by kernel_rfl) (fun K hK=>?_)
      apply Exists.intro;refine⟨fun w' hC=>?_,hK _ ?_⟩
      ·have f0':=HF0.o w' hC;have f1':=HF1.o w' hC;have f2':=HF2.o w' hC;unfold Oper.quietAt;go_simp
       first | with_reducible rfl | done
      clear hK K
    try simp only[Act.put,bP,bQ,bK]
   refine wpQuiet_nil ?_;intro w6 hb6;have HB6:=fJ HB3 hb6;clear hb6;go_wp2_with fail;go_ret;exact⟨rfl,HB6.o⟩
  ·have d1:decide (-1<=a)=true:=eP k1;have d2:decide (a<(np:Int))=true:=eP k2;have d3:decide (0<=b)=false:=dA k3;clear HTX;go_wp2_with fail;refine ah (by kernel_rfl) (by kernel_rfl) ?_;iterate 30
    first
    | with_reducible refine BigFrame.wpQuiet_skip (by with_unfolding_all rfl) ?_
    | with_reducible refine BigFrame.wpQuiet_want (by kernel_rfl) (fun K hK=>?_)
      apply Exists.intro;refine⟨fun w' hC=>?_,hK _ ?_⟩
      ·have f0':=HF0.o w' hC;have f1':=HF1.o w' hC;have f2':=HF2.o w' hC;unfold Oper.quietAt;go_simp
       first | with_reducible rfl | done
      clear hK K
    try simp only[Act.put,bP,bQ,bK]
   refine wpQuiet_nil ?_;intro w6 hb6;have HB6:=fJ HB3 hb6;clear hb6;go_wp2_with fail;go_ret;exact⟨rfl,HB6.o⟩
 obtain⟨k1,k2,k3⟩:=h1;have d1:decide (-1<=a)=true:=eP k1;have d2:decide (a<(G.prods.length:Int))=true:=eP k2;have d3:decide (0<=b)=true:=eP k3;obtain⟨rl,hrl⟩:=ai ((ax G a).length);have HRL:=hid hrl;obtain rfl:decide (b<=(rl:Int))=IV:=by
  rw[HTX.o,hrl];by_cases hh:b<=(rl:Int)
  ·rw[eP hh];exact(eP ⟨k1,k2,k3,hh⟩).symm
  ·rw[dA hh];exact(dA (fun h=>hh h.2.2.2)).symm
 clear HTX hrl;obtain⟨we,ewe⟩:=ai (w3.drew);have hbe:aj w3 we:=pW ewe;have HBE:=fJ HB3 hbe;have hS:∀ w',aj w3 w'->w'.cell? ⟨W1.heap.size,0,none⟩=some (.int .i64 a)/\w'.cell? ⟨W1.heap.size,1,none⟩=some (.int .i64 b)/\w'.cell? ⟨w.heap.size,3,none⟩=some (.slice pa G.prods.length pc)/\w'.cell? ⟨w.heap.size,0,none⟩=some tv/\w'.cell? ⟨w.heap.size,1,none⟩=some ov/\w'.cell? ⟨w.heap.size,2,none⟩=some sv/\w'.cell? ⟨w.heap.size,4,none⟩=some (.int .i64 G.start):=
  fun w' hC=>⟨HF0.o w' hC,HF1.o w' hC,HF2.o w' hC,(HGc.o w' hC).1,(HGc.o w' hC).2.1,(HGc.o w' hC).2.2.1,(HGc.o w' hC).2.2.2⟩
 have HH0:=hS we hbe;have HS:=hid hS;have KR:=hid (kV (HW3.o we hbe) HVV.o a k1 k2);have hwe:=hbe.size;have HBe:=hid hbe;clear hS hbe;generalize hnp:G.prods.length=np at *;clear hnp;go_wp2_with fail;refine aW 29 (fun w'=>w'.cell? ⟨W1.heap.size,0,none⟩=some (.int .i64 a)/\w'.cell? ⟨W1.heap.size,1,none⟩=some (.int .i64 b)/\w'.cell? ⟨w.heap.size,3,none⟩=some (.slice pa np pc)/\w'.cell? ⟨w.heap.size,0,none⟩=some tv/\w'.cell? ⟨w.heap.size,1,none⟩=some ov/\w'.cell? ⟨w.heap.size,2,none⟩=some sv/\w'.cell? ⟨w.heap.size,4,none⟩=some (.int .i64 G.start)) (by kernel_rfl) (by rw[ewe];exact HH0) (fun inv hHeld=>?_);rw[ewe];clear hHeld ewe;iterate 25
  refine aF (v:=?_) rfl (by kernel_rfl) (fun _ _ _ h=>h) (Or.inl ⟨by rfl,?_⟩) HH0 inv (fun inv=>?_)
  rotate_left
  ·intro w hSw;try dsimp only at hSw
   go_simp;try with_reducible rfl
  simp only[Act.put,bP,bQ,bK]
 refine eu (i:=25) rfl (by kernel_rfl) (by decide) inv (fun inv K' hK=>?_);go_simp;refine KR.o.mono ?_;rintro e w6 ⟨rv,rfl,hrv,hb6⟩;obtain⟨ro,rc,rfl,hrn⟩:=oz hrv;rw[HRL.o]at hrn ⊢;have HB6:=hid (HBe.o.trans (hb6.mono hwe));have HH1:=HS.o w6 HB6.o;have HB7:=fJ HBE hb6;refine hK.out _ _ HH1 ?_;clear hK K' HH0 hb6 hrv KR;try simp only[Act.put,bP,bQ,bK]
 iterate 3
  refine aF (v:=?_) rfl (by kernel_rfl) (fun _ _ _ h=>h) (Or.inl ⟨by rfl,?_⟩) HH1 inv (fun inv=>?_)
  rotate_left
  ·intro w hSw;try dsimp only at hSw
   go_simp;try with_reducible rfl
  simp only[Act.put,bP,bQ,bK]
 refine fQ (i:=29) rfl (by kernel_rfl) (fun K' hK=>?_);go_simp;refine hK.out _ _ (fun h=>absurd h (by decide)) ?_;clear hK K';try simp only[Act.put,bP,bQ,bK]
 refine aQ (by kernel_rfl) ?_ _;go_wp2_with fail;go_ret;exact⟨rfl,HB7.o⟩
def Am (G:GD)(x:It)(w:World)(e:Ending)(w':World):Prop:=e=.returned (.tuple #[.int .i64 ((jZ G x).getD 0),.bool (jZ G x).isSome])/\aj w w'
theorem G7 {G:GD}{x:It}(h:ww G x=false):jZ G x=none:=by
 unfold jZ;split
 ·rename_i hv;unfold ww at h;rw[hv,Bool.true_and]at h;unfold aY;rw[if_neg (by rw[h];exact Bool.false_ne_true)]
 ·rfl
theorem LK {G:GD}{x:It}(h:ww G x=true):jZ G x=(ax G x.1)[x.2.toNat]?:=by
 unfold ww at h;rw[Bool.and_eq_true]at h;unfold jZ aY;rw[if_pos h.1,if_pos h.2]
theorem qN {G:GD}{gv:Value}{w:World}(h:fZ w gv G)(x:It) :
  Calls Tryz.prog 56 #[gv,mg x] w (Am G x w):=by
 have HGr:=hid h;obtain⟨tv,ov,sv,pv,tf,rv,h⟩:=h;obtain⟨W1,B,hW1,hB,c0,c1,c2,c3,c4,hG,hb,hsz⟩:=gU h;have hgv:=h.eq;subst hgv hB;have e1:=hW1.symm;obtain⟨W2,e2⟩:=ai (W1.alloc (.cells #[.int .i64 x.1,.int .i64 x.2] 110));have hb2:aj W1 W2:=dM e2;have n2:W2.heap[W1.heap.size]?=some (.cells #[.int .i64 x.1,.int .i64 x.2] 110 (0,0)):=by rw[<-e2];exact heap_alloc_new _ _
 have lW:W1.heap.size<W2.heap.size:=(dZ n2);have lB:w.heap.size<W1.heap.size:=World.block_lt_of_cell? W1 _ c3;have HB2:=hid (hb.trans (hb2.mono hsz));have c0:=cell_below hb2 c0;have c1:=cell_below hb2 c1;have c2:=cell_below hb2 c2;have c3:=cell_below hb2 c3;have c4:=cell_below hb2 c4;have HF0:Hid (∀ w',aj W2 w'->w'.cell? ⟨W1.heap.size,0,none⟩=some (.int .i64 x.1)):=hid fun w' hC=>cell_below hC (ak n2 0);have HF1:Hid (∀ w',aj W2 w'->w'.cell? ⟨W1.heap.size,1,none⟩=some (.int .i64 x.2)):=hid fun w' hC=>cell_below hC (ak n2 1);have HF2:Hid (∀ w',aj W2 w'->w'.cell? ⟨w.heap.size,3,none⟩=some pv):=hid fun w' hC=>cell_below hC c3;have HF3:Hid (∀ w',aj W2 w'->w'.cell? ⟨w.heap.size,0,none⟩=some tv):=hid fun w' hC=>cell_below hC c0;have HF4:Hid (∀ w',aj W2 w'->w'.cell? ⟨w.heap.size,1,none⟩=some ov):=hid fun w' hC=>cell_below hC c1;have HF5:Hid (∀ w',aj W2 w'->w'.cell? ⟨w.heap.size,2,none⟩=some sv):=hid fun w' hC=>cell_below hC c2;have HF6:Hid (∀ w',aj W2 w'->w'.cell? ⟨w.heap.size,4,none⟩=some (.int .i64 G.start)):=hid fun w' hC=>cell_below hC c4;have HWG:=hid (show ∀ w',aj W2 w'->fZ w' (.agg #[tv,ov,sv,pv,.int .i64 G.start]) G from fun w' hC=>HGr.o.below (HB2.o.trans (hC.mono HB2.o.size)));have hKI:∀ w',aj W2 w'->Calls Tryz.prog 57 #[.agg #[tv,ov,sv,pv,.int .i64 G.start],mg x] w' fun e w''=>e=.returned (.bool (ww G x))/\aj w' w'':=fun w' hC=>Hl (HWG.o w' hC) x;obtain⟨iv,hiv⟩:=ai (ww G x);rw[hiv]at hKI;have KI:=hid hKI;have HIV:=hid hiv;unfold mg at KI ⊢;clear h hG hW1 hb hb2 n2 hKI hiv c0 c1 c2 c3 c4;cases iv
 ·have HNO:=hid (G7 HIV.o);go_enter Tryz.func56,Tryz.ntmps56;go_wp2_with fail;refine ah (by kernel_rfl) (by kernel_rfl) ?_;iterate 14
   first
   | with_reducible refine BigFrame.wpQuiet_skip (by with_unfolding_all rfl) ?_
   | with_reducible refine BigFrame.wpQuiet_want (by kernel_rfl) (fun K hK=>?_)
     apply Exists.intro;refine⟨fun w' hC=>?_,hK _ ?_⟩
     ·have f0':=HF0.o w' hC;have f1':=HF1.o w' hC;have f2':=HF2.o w' hC;have f3':=HF3.o w' hC;have f4':=HF4.o w' hC;have f5':=HF5.o w' hC;have f6':=HF6.o w' hC;unfold Oper.quietAt;go_simp
      first | with_reducible rfl | with_reducible exact bD hC (bJ _) (KI.o w' hC)
     clear hK K
   try simp only[Act.put,bP,bQ,bK]
  refine wpQuiet_nil ?_;intro w6 hb6;have HB6:=fJ HB2 hb6;clear hb6;go_wp2_with fail;refine bodyPost_ret (results_tmp2 rfl _ _ _) rfl ?_;refine⟨?_,HB6.o⟩;rw[HNO.o];rfl
 have HBV:=hid (LK HIV.o);have hX:=aO.bW.1 (show bu G x=true from by
  have:=HIV.o;unfold ww at this;rw[Bool.and_eq_true]at this;exact this.2)
 have HV:=hid (show aB G=true from by
  have:=HIV.o;unfold ww at this;rw[Bool.and_eq_true]at this;exact this.1)
 obtain⟨a,b⟩:=x;dsimp only at *;obtain⟨n,rfl⟩:∃ n:Nat,b=(n:Int):=⟨b.toNat,by omega⟩;rw[Int.toNat_natCast]at HBV;obtain⟨rl,hrl⟩:=ai ((ax G a).length);have HRL:=hid hrl;have HX:=hid hX;rw[hrl]at hX;have hnrl:n<=rl:=by omega
 clear hrl hX;obtain⟨we,ewe⟩:=ai (W2.drew);have hbe:aj W2 we:=pW ewe;have HS:=hid (show ∀ w',aj W2 w'->(ay w' W1.heap.size 0 (.int .i64 a)/\ay w' W1.heap.size 1 (.int .i64 (n:Int))/\ay w' w.heap.size 3 pv/\ay w' w.heap.size 0 tv/\ay w' w.heap.size 1 ov/\ay w' w.heap.size 2 sv/\ay w' w.heap.size 4 (.int .i64 G.start))from fun w' hC=>⟨HF0.o w' hC,HF1.o w' hC,HF2.o w' hC,HF3.o w' hC,HF4.o w' hC,HF5.o w' hC,HF6.o w' hC⟩);have HH0:=HS.o we hbe;have HBe:=hid hbe;have hwe:=hbe.size;clear hbe;go_enter Tryz.func56,Tryz.ntmps56;go_wp2_with fail;refine aW 13 (fun w'=>w'.cell? ⟨W1.heap.size,0,none⟩=some (.int .i64 a)/\w'.cell? ⟨W1.heap.size,1,none⟩=some (.int .i64 (n:Int))/\w'.cell? ⟨w.heap.size,3,none⟩=some pv/\w'.cell? ⟨w.heap.size,0,none⟩=some tv/\w'.cell? ⟨w.heap.size,1,none⟩=some ov/\w'.cell? ⟨w.heap.size,2,none⟩=some sv/\w'.cell? ⟨w.heap.size,4,none⟩=some (.int .i64 G.start)) (by kernel_rfl) (by rw[ewe];exact HH0) (fun inv hHeld=>?_);rw[ewe];clear hHeld ewe;iterate 2
  refine aF (v:=?_) rfl (by kernel_rfl) (fun _ _ _ h=>h) (Or.inl ⟨by rfl,?_⟩) HH0 inv (fun inv=>?_)
  rotate_left
  ·intro w hSw;try dsimp only at hSw
   go_simp;try with_reducible rfl
  simp only[Act.put,bP,bQ,bK]
 refine eu (i:=2) rfl (by kernel_rfl) (by decide) inv (fun inv K' hK=>?_);go_simp;refine(KI.o we HBe.o).mono ?_;rintro e w4 ⟨rfl,hb4⟩;have HB4:=fJ HBe hb4;refine hK.out _ _ (HS.o w4 HB4.o) ?_;have HH0:=HS.o w4 HB4.o;clear hK K' hb4;try simp only[Act.put,bP,bQ,bK]
 iterate 7
  refine aF (v:=?_) rfl (by kernel_rfl) (fun _ _ _ h=>h) (Or.inl ⟨by rfl,?_⟩) HH0 inv (fun inv=>?_)
  rotate_left
  ·intro w hSw;try dsimp only at hSw
   go_simp;try with_reducible rfl
  simp only[Act.put,bP,bQ,bK]
 refine eu (i:=10) rfl (by kernel_rfl) (by decide) inv (fun inv K' hK=>?_);go_simp;refine(kV (HWG.o w4 HB4.o) HV.o a HX.o.1 HX.o.2.1).mono ?_;rintro e w6 ⟨rv1,rfl,hrv,hb6⟩;obtain⟨ro,rc,rfl,hrn⟩:=oz hrv;rw[HRL.o]at hrn ⊢;have HB6:=fJ HB4 hb6;refine hK.out _ _ (HS.o w6 HB6.o) ?_;have HH0:=HS.o w6 HB6.o;clear hK K' hb6 hrv;try simp only[Act.put,bP,bQ,bK]
 iterate 2
  refine aF (v:=?_) rfl (by kernel_rfl) (fun _ _ _ h=>h) (Or.inl ⟨by rfl,?_⟩) HH0 inv (fun inv=>?_)
  rotate_left
  ·intro w hSw;try dsimp only at hSw
   go_simp;try with_reducible rfl
  simp only[Act.put,bP,bQ,bK]
 refine fQ (i:=13) rfl (by kernel_rfl) (fun K' hK=>?_);go_simp;refine hK.out _ _ (fun h=>absurd h (by decide)) ?_;clear hK K';try simp only[Act.put,bP,bQ,bK]
 refine aQ (by kernel_rfl) ?_ _;by_cases he:n=rl
 ·have HBN:=hid (show jZ G (a,(n:Int))=none from by rw[HBV.o];exact List.getElem?_eq_none (by have:=HRL.o;omega));have HB7:=hid (HB2.o.trans (HB6.o.mono HB2.o.size));subst he;clear HBV;go_wp2_with fail;refine bodyPost_ret (results_tmp2 rfl _ _ _) rfl ?_;refine⟨?_,HB7.o⟩;rw[HBN.o];rfl
 have hlt:n<rl:=by omega
 have hgt:¬ (rl:Int)<=(n:Int):=by omega
 have hgt2:decide (rl<=n)=false:=dA (by omega);obtain⟨we,ewe⟩:=ai (w6.drew);have hbe:aj w6 we:=pW ewe;have hBe:=HB6.o.trans (hbe.mono HB6.o.size);have HH0:=HS.o we hBe;have HBe:=hid hBe;clear hbe hBe HH0 KI;have HH0:=HS.o we HBe.o;go_wp2_with fail;have n0:(0:Int)<=(n:Int):=by omega
 have n1:(n:Int)<(rl:Int):=by omega
 refine aW 9 (fun w'=>w'.cell? ⟨W1.heap.size,0,none⟩=some (.int .i64 a)/\w'.cell? ⟨W1.heap.size,1,none⟩=some (.int .i64 (n:Int))/\w'.cell? ⟨w.heap.size,3,none⟩=some pv/\w'.cell? ⟨w.heap.size,0,none⟩=some tv/\w'.cell? ⟨w.heap.size,1,none⟩=some ov/\w'.cell? ⟨w.heap.size,2,none⟩=some sv/\w'.cell? ⟨w.heap.size,4,none⟩=some (.int .i64 G.start)) (by kernel_rfl) (by rw[ewe];exact HH0) (fun inv hHeld=>?_);rw[ewe];clear hHeld ewe;iterate 5
  refine aF (v:=?_) rfl (by kernel_rfl) (fun _ _ _ h=>h) (Or.inl ⟨by rfl,?_⟩) HH0 inv (fun inv=>?_)
  rotate_left
  ·intro w hSw;try dsimp only at hSw
   go_simp;try with_reducible rfl
  simp only[Act.put,bP,bQ,bK]
 refine eu (i:=3) rfl (by kernel_rfl) (by decide) inv (fun inv K' hK=>?_);go_simp;refine(kV (HWG.o we HBe.o) HV.o a HX.o.1 HX.o.2.1).mono ?_;rintro e w8 ⟨rv2,rfl,hrv,hb8⟩;obtain⟨ro2,rc2,rfl,hrn2⟩:=oz hrv;obtain⟨⟨ro',rc',hro,_,hcs⟩,_⟩:=hrv;rw[HRL.o]at hro hcs hrn2 ⊢;obtain⟨b0,off,e,hcq⟩:=hcs (by omega);injection hro with hr1 hr2 hr3;subst hr1;subst e;have cs:ay w8 b0 (off+n) (.int .i64 ((ax G a).getD n 0)):=hcq n hlt;have hll:n<(ax G a).length:=by rw[HRL.o];exact hlt
 have hget:(ax G a).getD n 0=(ax G a)[n]:=by rw[dL,dH hll];rfl
 rw[hget]at cs;have HBN:=hid (show jZ G (a,(n:Int))=some (ax G a)[n]from by rw[HBV.o];exact dH hll);generalize (ax G a)[n]=y at *;have HB8:=fJ HBe hb8;have HH1:=HS.o w8 HB8.o;refine hK.out _ _ HH1 ?_;clear hK K' hb8 HH0 hcs hcq hget hr2 hr3;try simp only[Act.put,bP,bQ,bK]
 refine eu (i:=6) rfl (by kernel_rfl) (by decide) inv (fun inv K' hK=>?_);go_simp;refine hK.out _ _ HH1 ?_;clear hK K';try simp only[Act.put,bP,bQ,bK]
 refine eu (i:=7) rfl (by kernel_rfl) (by decide) inv (fun inv K' hK=>?_);go_simp;refine hK.out _ _ HH1 ?_;clear hK K';try simp only[Act.put,bP,bQ,bK]
 refine eu (i:=8) rfl (by kernel_rfl) (by decide) inv (fun inv K' hK=>?_);go_simp;refine hK.out _ _ HH1 ?_;clear hK K';try simp only[Act.put,bP,bQ,bK]
 refine fQ (i:=9) rfl (by kernel_rfl) (fun K' hK=>?_);go_simp;refine hK.out _ _ (fun h=>absurd h (by decide)) ?_;clear hK K';try simp only[Act.put,bP,bQ,bK]
 refine aQ (by kernel_rfl) ?_ _;have HB9:=hid (HB2.o.trans (HB8.o.mono HB2.o.size));clear HBV;go_wp2_with fail;refine bodyPost_ret (results_tmp2 rfl _ _ _) rfl ?_;refine⟨?_,HB9.o⟩;rw[HBN.o];rfl
end Go.Proofs.YticmnfmijdgmbaaGreatDoor
namespace Go.Proofs.aO
open Go.Proofs.YticmnfmijdgmbaaGreatDoor (GD PD aB ww jZ fP bn)
theorem xZ:∀ {l m:List It},l.Nodup->(∀ x∈l,x∈m)->l.length<=m.length
 | [],m,_,_=>Nat.zero_le _
 | x::r,m,hn,hs=>by
  obtain⟨h1,h2⟩:=List.nodup_cons.1 hn;have hx:=hs x (by simp);have:=xZ (m:=m.erase x) h2 fun y hy=>by
   exact(List.mem_erase_of_ne fun e:y=x=>h1 (e▸hy)).2 (hs y (by simp[hy]))
  rw[List.length_erase_of_mem hx]at this;have:=List.length_pos_of_mem hx;rw[List.length_cons];omega
theorem right_le {G:GD}(hv:aB G=true){q:Int}(h0:-1<=q)(h1:q<(G.prods.length:Int)):(ax G q).length<=12:=by
 unfold ax;split
 ·show(1:Nat)<=12;omega
 ·have hq:q.toNat<G.prods.length:=by omega
  obtain⟨_,_,_,hp,_⟩:=bn hv;have hm:G.prods.getD q.toNat default∈G.prods:=by
   rw[dL,dH hq];exact List.getElem_mem hq
  have:=List.all_eq_true.1 hp _ hm;unfold fP at this;simp only[Bool.and_eq_true,decide_eq_true_eq]at this;omega
theorem DK {α:Type}(f:Nat->List α)(c:Nat):∀ l:List Nat,(∀ q∈l,(f q).length<=c)->(l.flatMap f).length<=l.length*c
 | [],_=>by simp
 | q::l,h=>by
  rw[List.flatMap_cons,List.length_append,List.length_cons,Nat.succ_mul];have h1:=h q (by simp);have h2:=DK f c l fun r hr=>h r (by simp[hr]);omega
theorem Ef {G:GD}(hv:aB G=true):(BL G).length<=1573:=by
 unfold BL;refine eX (DK _ 13 _ fun q hq=>?_) ?_
 ·rw[List.length_map,List.length_range];have:=List.mem_range.1 hq;have:=right_le hv (q:=(q:Int)-1) (by omega) (by omega);omega
 ·rw[List.length_range];have:=(bn hv).2.2.1;omega
open Classical in
noncomputable def fD (G:GD) (l:List It):List It:=if aB G=true then aP G l else []
noncomputable def pK (G:GD) (l:List It) (s:Int):List It:=aX G (fD G l) s
theorem wE (G:GD)(l:List It):iQ (fD G l):=by
 unfold fD;split
 ·exact(eY G l).1
 ·exact List.Pairwise.nil
theorem sJ {G:GD}{l:List It}{x:It} : x∈fD G l↔aB G=true/\rP G l x:=by
 unfold fD;split
 ·rename_i h;rw[(eY G l).2 x];exact⟨fun k=>⟨h,k⟩,fun k=>k.2⟩
 ·rename_i h;exact⟨fun k=>by simp at k,fun k=>absurd k.1 h⟩
theorem iQ.nodup {l:List It}(h:iQ l):l.Nodup:=List.Pairwise.imp (fun {a b}(hab:Less a b) (e:a=b)=>Less.irrefl (e▸hab:Less b b)) h
theorem kP (G:GD)(l:List It):(fD G l).length<=1573:=by
 unfold fD;split
 ·rename_i h;exact eX (xZ (eY G l).1.nodup fun x hx=>qy (((eY G l).2 x).1 hx).there) (Ef h)
 ·exact Nat.zero_le _
theorem uO (G:GD)(l:List It)(s:Int):(pK G l s).length<=1573:=by
 unfold pK aX;rw[List.length_map];exact eX (List.length_filter_le _ _) (kP G l)
structure FQ (G:GD) (l O:List It) (i:Nat):Prop where
 inn:∀ x∈O,ww G x=true/\x∈l
 base:∀ x∈l.take i,ww G x=true->x∈O
 nd:O.Nodup
theorem FQ.start (G:GD)(l:List It):FQ G l [] 0:=⟨by simp,by simp,List.nodup_nil⟩
theorem FQ.skip {G:GD}{l O:List It}{i:Nat}{x:It}(h:FQ G l O i)(hx:l[i]?=some x)(hn:ww G x=true->x∈O):FQ G l O (i+1):=
 ⟨h.inn,fun y hy hv=>by
  rcases iC hx hy with e | e
  ·exact h.base y e hv
  ·rw[e]at hv ⊢;exact hn hv,h.nd⟩
theorem FQ.put {G:GD}{l O:List It}{i:Nat}{x:It}(h:FQ G l O i)(hx:l[i]?=some x)(hv:ww G x=true)(hn:x∉O):FQ G l (O++[x]) (i+1):=
 ⟨fun y hy=>by
  rcases List.mem_append.1 hy with e | e
  ·exact h.inn y e
  ·obtain rfl:y=x:=by simpa using e
   exact⟨hv,List.mem_of_getElem? hx⟩,fun y hy hv=>by
  rcases iC hx hy with e | e
  ·exact List.mem_append_left _ (h.base y e hv)
  ·rw[e];simp,List.nodup_append.2 ⟨h.nd,by simp,fun a ha b hb=>by
   obtain rfl:b=x:=by simpa using hb
   exact fun e=>hn (e▸ha)⟩⟩
theorem lT {G:GD}{x:It} : ww G x=true↔aB G=true/\bu G x=true:=by unfold ww;exact Bool.and_eq_true_iff
theorem Lc {G:GD}{O:List It}(hn:O.Nodup)(h:∀ x∈O,ww G x=true):O.length<=1573:=by
 cases O with
 | nil=>exact Nat.zero_le _
 | cons x r =>
  have hv:=(lT.1 (h x (by simp))).1;exact eX (xZ hn fun y hy=>qy (lT.1 (h y hy)).2) (Ef hv)
structure Hf (G:GD) (l O:List It) (i:Nat):Prop where
 inn:∀ x∈O,aB G=true/\rP G l x
 base:∀ x∈l,ww G x=true->x∈O
 nd:O.Nodup
 done:∀ (j:Nat) (x:It) (s:Int) (p:Nat),j<i->O[j]?=some x->aY G x=some s->s<0->p<G.prods.length->bg G p=-1-s->((p:Int),0)∈O
theorem FQ.re {G:GD}{l O:List It}(h:FQ G l O l.length):Hf G l O 0:=
 ⟨fun x hx=>⟨(lT.1 (h.inn x hx).1).1,.base x (h.inn x hx).2 (lT.1 (h.inn x hx).1).2⟩,fun x hx hv=>h.base x (by rw[List.take_length];exact hx) hv,h.nd,fun j x s p hj=>absurd hj (Nat.not_lt_zero j)⟩
theorem Hf.len {G:GD}{l O:List It}{i:Nat}(h:Hf G l O i):O.length<=1573:=Lc h.nd fun x hx=>lT.2 ⟨(h.inn x hx).1,(h.inn x hx).2.there⟩
theorem Hf.next {G:GD}{l O:List It}{i:Nat}{x:It}(h:Hf G l O i)(hx:O[i]?=some x)(hd:∀ (s:Int) (p:Nat),aY G x=some s->s<0->p<G.prods.length->bg G p=-1-s->((p:Int),0)∈O):Hf G l O (i+1):=
 ⟨h.inn,h.base,h.nd,fun j y s p hj hy hb hs hp he=>by
  by_cases hji:j<i
  ·exact h.done j y s p hji hy hb hs hp he
  ·obtain rfl:j=i:=by omega
   rw[hx]at hy;injection hy with hy;subst hy;exact hd s p hb hs hp he⟩
theorem Hf.put {G:GD}{l O:List It}{i p:Nat}{x:It}{s:Int}(h:Hf G l O i)(hx:x∈O)(hi:i<=O.length)(hb:aY G x=some s)(hs:s<0)(hp:p<G.prods.length)(he:bg G p=-1-s)(hn:((p:Int),(0:Int))∉O):Hf G l (O++[((p:Int),0)]) i:=
 ⟨fun y hy=>by
  rcases List.mem_append.1 hy with e | e
  ·exact h.inn y e
  ·obtain rfl:y=((p:Int),0):=by simpa using e
   exact⟨(h.inn x hx).1,.more x s p (h.inn x hx).2 hb hs hp he⟩,fun y hy hv=>List.mem_append_left _ (h.base y hy hv),List.nodup_append.2 ⟨h.nd,by simp,fun a ha b hb=>by
   obtain rfl:b=((p:Int),0):=by simpa using hb
   exact fun e=>hn (e▸ha)⟩,fun j y s' q hj hy hb' hs' hq he'=>by
  rw[List.getElem?_append_left (by omega)]at hy;exact List.mem_append_left _ (h.done j y s' q hj hy hb' hs' hq he')⟩
theorem Hf.close {G:GD}{l O L:List It}{i:Nat}(h:Hf G l O i)(hi:O.length<=i)(hr:iQ L)(hm:∀ x,x∈L↔x∈O):L=fD G l:=by
 refine hr.eq (wE G l) fun x=>?_;rw[hm x,sJ];refine⟨h.inn x,fun hvx=>?_⟩;obtain⟨hv,hx⟩:=hvx;induction hx with
 | base x hx ht=>exact h.base x hx (lT.2 ⟨hv,ht⟩)
 | more x s p hx hb hs hp he ih =>
  obtain⟨j,hj,e⟩:=List.mem_iff_getElem.1 ih;exact h.done j x s p (by omega) (by rw[dH hj,e]) hb hs hp he
end Go.Proofs.aO
