/- The walk of TablePrefix. -/
import Derived.Test.YticmnfmijdgmbaaGreatDoorGa
import Derived.Test.YticmnfmijdgmbaaGreatDoorYs
import Derived.Below
import Derived.ChangeSame
import Derived.Carry
import Derived.OpenShut
set_option linter.unusedVariables false
set_option linter.unusedSimpArgs false
namespace Go.Proofs.YticmnfmijdgmbaaGreatDoor
open Go Go.RowKit Go.Lib
open X14 (It exG closeX iterB BuiltOk BuiltMany rightX behX sortX)
open S13 (u64 bitN top E0 F0 Sub hasN)
open S16
open S13.X15 (Pl LeastA askX places cxB)
set_option maxRecDepth 100000 in
set_option maxHeartbeats 16000000 in
theorem prefix16_walk {G:GD} {gv:Value} {w:World} {Bt:Nat} (h:Gram w gv G) {lv:Value} {l:List Int} (hl:IntsAt w lv l) (hcap:∀ a n c,lv=.slice a n c->n<=c) (ht:Tab Bt w) (hBt:Bt<=w.heap.size) :
  Calls Tryz.prog 11 #[gv,lv] w fun e w'=>e=.returned (.bool true)/\Below w.heap.size w w':=by
 have HGr:=hid h
 have HT:=hid ht
 obtain ⟨tv,ov,sv,pv,tf,rv,h⟩:=h
 have HGA:=hid h
 have hgv:=h.eq
 subst hgv
 obtain ⟨W1,e1⟩:=nmQ (w.alloc (.cells #[tv,ov,sv,pv,.int .i64 G.start] 27))
 have hb1:Below w.heap.size w W1:=baQ e1
 have n1:W1.heap[w.heap.size]?=some (.cells #[tv,ov,sv,pv,.int .i64 G.start] 27 (0,0)):=nbQ e1
 have HB1:=hid hb1
 have HN1:=hid n1
 have KW:=hid (works16_any W1 (ht.on (hb1.mono hBt)) (Nat.le_trans hBt hb1.size))
 clear h hb1 n1 ht
 have HLI:=hid hl
 obtain ⟨lo,lc,rfl,_⟩:=id hl.1
 obtain ⟨LN,hLN⟩:=nmQ (l.length)
 have HCAP:=hid (show LN<=lc from by rw [<-hLN]; exact hcap _ _ _ rfl)
 rw [hLN] at HLI ⊢
 have HLN:=hid hLN
 clear hl hLN hcap
 go_enter Tryz.func11,Tryz.ntmps11
 go_wp2_with fail
 refine KW.out.mono ?_
 rintro e w2 ⟨rfl,hb2⟩
 have HB2:=hid (HB1.out.trans (hb2.mono HB1.out.size))
 have HN2:=hid ((hb2.block _ (ltQ HN1.out)).trans HN1.out)
 obtain ⟨c0,c1,c2,c3,c4⟩:=cells5 HN2.out
 have KF:=hid (Little_any (HGr.out.below HB2.out))
 clear hb2 KW e1
 go_wp2_with fail
 refine KF.out.mono ?_
 rintro e w3 ⟨fw,rfl,hb3⟩
 have HB3:=hid (HB2.out.trans (hb3.mono HB2.out.size))
 have HN3:=hid ((hb3.block _ (ltQ HN2.out)).trans HN2.out)
 clear hb3 KF c0 c1 c2 c3 c4
 cases fw
 ·go_wp2_with fail
  go_ret
  exact ⟨rfl,HB3.out⟩
 by_cases hl8:8 < LN
 ·have g0:(8:Int) < (LN:Int):=by omega
  have g1:decide ((8:Int) < (LN:Int))=true:=decide_eq_true g0
  have g2:decide (8 < LN)=true:=decide_eq_true hl8
  go_wp2_with fail
  go_ret
  exact ⟨rfl,HB3.out⟩
 have g0:¬ (8:Int) < (LN:Int):=by omega
 have g1:decide ((8:Int) < (LN:Int))=false:=decide_eq_false g0
 have g2:decide (8 < LN)=false:=decide_eq_false hl8
 have HL8:=hid (show LN<=8 from by omega)
 obtain ⟨c0,c1,c2,c3,c4⟩:=cells5 HN3.out
 have KB:=hid (BuildT_any (HGr.out.below HB3.out) (HT.out.on (HB3.out.mono hBt)) (Nat.le_trans hBt HB3.out.size))
 go_wp2_with fail
 refine KB.out.mono ?_
 rintro e w4 hbp
 obtain ⟨hb4,hcase⟩:=build_cases hbp
 have HB4:=hid (HB3.out.trans (hb4.mono HB3.out.size))
 have HN4:=hid ((hb4.block _ (ltQ HN3.out)).trans HN3.out)
 clear KB c0 c1 c2 c3 c4 hbp
 rcases hcase with ⟨er,her,rfl⟩ | ⟨n,A,dv,nv,mv,hV,hO,hL,hno,rfl,htab⟩
 ·unfold zeroTab
  obtain ⟨Wz,ez⟩:=nmQ (w4.alloc (.cells #[.slice none 0 0,.slice none 0 0,.slice none 0 0] 96))
  have nez:Wz.heap[w4.heap.size]?=some (.cells #[.slice none 0 0,.slice none 0 0,.slice none 0 0] 96 (0,0)):=nbQ ez
  have xn0:Wz.heap[w4.heap.size]?=some (.cells #[.slice none 0 0,.slice none 0 0,.slice none 0 0] 96 (0,0)):=nez
  have xc0:Wz.cell? ⟨w4.heap.size,0,none⟩=some (.slice none 0 0):=coQ xn0 0
  have xf0:=foQ xn0 0
  obtain ⟨z1,xe0⟩:=nmQ (Wz.setCell ⟨w4.heap.size,0,none⟩ (.slice none 0 0))
  have xn1:z1.heap[w4.heap.size]?=some (.cells #[.slice none 0 0,.slice none 0 0,.slice none 0 0] 96 (0,0)):=hsQ xe0 xn0
  have xc1:z1.cell? ⟨w4.heap.size,1,none⟩=some (.slice none 0 0):=coQ xn1 1
  have xf1:=foQ xn1 1
  obtain ⟨z2,xe1⟩:=nmQ (z1.setCell ⟨w4.heap.size,1,none⟩ (.slice none 0 0))
  have xn2:z2.heap[w4.heap.size]?=some (.cells #[.slice none 0 0,.slice none 0 0,.slice none 0 0] 96 (0,0)):=hsQ xe1 xn1
  have xc2:z2.cell? ⟨w4.heap.size,2,none⟩=some (.slice none 0 0):=coQ xn2 2
  have xf2:=foQ xn2 2
  obtain ⟨z3,xe2⟩:=nmQ (z2.setCell ⟨w4.heap.size,2,none⟩ (.slice none 0 0))
  have xn3:z3.heap[w4.heap.size]?=some (.cells #[.slice none 0 0,.slice none 0 0,.slice none 0 0] 96 (0,0)):=hsQ xe2 xn2
  have HBBx:=hid (show Below w4.heap.size w4 z3 from by
   rw [<-xe2,<-xe1,<-xe0,<-ez]
   exact ((((Below.refl _ _).alloc (Nat.le_refl _) _).setCell (Nat.le_refl _) _).setCell (Nat.le_refl _) _).setCell (Nat.le_refl _) _)
  have HNBx:=hid xn3
  clear nez xn0 xn1 xn2 xn3
  rcases her with rfl | rfl | rfl
  ·go_wp2_with fail
   go_ret
   exact ⟨rfl,HB4.out.trans (HBBx.out.mono HB4.out.size)⟩
  ·go_wp2_with fail
   go_ret
   exact ⟨rfl,HB4.out.trans (HBBx.out.mono HB4.out.size)⟩
  ·go_wp2_with fail
   go_ret
   exact ⟨rfl,HB4.out.trans (HBBx.out.mono HB4.out.size)⟩
 have HTB:=hid htab
 obtain ⟨dvo,dvc,nvo,nvc,mvo,mvc,rfl,rfl,rfl,ht1,ht2,ht3⟩:=tab_parts htab
 have HH:=hid (show validB G=true/\BuiltOk G n/\LA G n A/\clX (cntS (dS G n A)) (G.terms.length + 1) n=[] from ⟨hV,hO,hL,hno⟩)
 have HTP:=hid (And.intro ht1 (And.intro ht2 ht3))
 clear hV hO hL hno htab ht1 ht2 ht3
 obtain ⟨Wz,ez⟩:=nmQ (w4.alloc (.cells #[.slice none 0 0,.slice none 0 0,.slice none 0 0] 96))
 have nez:Wz.heap[w4.heap.size]?=some (.cells #[.slice none 0 0,.slice none 0 0,.slice none 0 0] 96 (0,0)):=nbQ ez
 have xn0:Wz.heap[w4.heap.size]?=some (.cells #[.slice none 0 0,.slice none 0 0,.slice none 0 0] 96 (0,0)):=nez
 have xc0:Wz.cell? ⟨w4.heap.size,0,none⟩=some (.slice none 0 0):=coQ xn0 0
 have xf0:=foQ xn0 0
 obtain ⟨z1,xe0⟩:=nmQ (Wz.setCell ⟨w4.heap.size,0,none⟩ (.slice dvo n dvc))
 have xn1:z1.heap[w4.heap.size]?=some (.cells #[.slice dvo n dvc,.slice none 0 0,.slice none 0 0] 96 (0,0)):=hsQ xe0 xn0
 have xc1:z1.cell? ⟨w4.heap.size,1,none⟩=some (.slice none 0 0):=coQ xn1 1
 have xf1:=foQ xn1 1
 obtain ⟨z2,xe1⟩:=nmQ (z1.setCell ⟨w4.heap.size,1,none⟩ (.slice nvo n nvc))
 have xn2:z2.heap[w4.heap.size]?=some (.cells #[.slice dvo n dvc,.slice nvo n nvc,.slice none 0 0] 96 (0,0)):=hsQ xe1 xn1
 have xc2:z2.cell? ⟨w4.heap.size,2,none⟩=some (.slice none 0 0):=coQ xn2 2
 have xf2:=foQ xn2 2
 obtain ⟨w5,xe2⟩:=nmQ (z2.setCell ⟨w4.heap.size,2,none⟩ (.slice mvo n mvc))
 have xn3:w5.heap[w4.heap.size]?=some (.cells #[.slice dvo n dvc,.slice nvo n nvc,.slice mvo n mvc] 96 (0,0)):=hsQ xe2 xn2
 have HBBx:=hid (show Below w4.heap.size w4 w5 from by
  rw [<-xe2,<-xe1,<-xe0,<-ez]
  exact ((((Below.refl _ _).alloc (Nat.le_refl _) _).setCell (Nat.le_refl _) _).setCell (Nat.le_refl _) _).setCell (Nat.le_refl _) _)
 have HNBx:=hid xn3
 clear nez xn0 xn1 xn2 xn3
 have HB5:=hid (HB4.out.trans (HBBx.out.mono HB4.out.size))
 have HN5:=hid ((HBBx.out.block _ (ltQ HN4.out)).trans HN4.out)
 have HBX:=hid (show ∀ w',Below w5.heap.size w5 w'->w'.cell? ⟨w4.heap.size,0,none⟩=some (.slice dvo n dvc)/\w'.cell? ⟨w4.heap.size,1,none⟩=some (.slice nvo n nvc)/\w'.cell? ⟨w4.heap.size,2,none⟩=some (.slice mvo n mvc) from fun w' hC=>⟨cell_below hC (coQ HNBx.out 0),cell_below hC (coQ HNBx.out 1),cell_below hC (coQ HNBx.out 2)⟩)
 obtain ⟨b,r,hrun⟩:=runs_some HH.out.1 HH.out.2.1 HH.out.2.2.1 HH.out.2.2.2 l
 have HR1:=hid hrun
 clear hrun g0 g1 g2 hl8
 obtain ⟨c0,c1,c2,c3,c4⟩:=cells5 HN5.out
 have KL:=hid (S13.Lives_any (HGA.out.mono HB5.out) HH.out.1)
 go_wp2_with fail
 refine KL.out.mono ?_
 rintro e w6 ⟨vb,L,rfl,hLv,hLh,hLs,hb6⟩
 have HLV:=hid hLv
 have HB6:=hid (HB5.out.trans (hb6.mono HB5.out.size))
 have HN6:=hid ((hb6.block _ (ltQ HN5.out)).trans HN5.out)
 have HX6:=hid hb6
 obtain ⟨ns,hns⟩:=nmQ (G.sorts.length)
 have HNS:=hid hns
 have HLC:=hid (show ∀ i,i < ns->w6.cell? ⟨vb,i,none⟩=some (.bool (L.getD i false)) from fun i hi=>S13.cell_bools hLh (by rw [hLv.length,hns]; exact hi))
 have hns60:ns<=60:=by have:=(S13.valid_few HH.out.1).2.1; omega
 rw [hns]
 clear xc0 xf0 xc1 xf1 xc2 xf2 xe0 xe1 xe2 ez hLv hLh hLs hb6 KL hns c0 c1 c2 c3 c4
 go_wp2_with fail
 go_loop [10] (fun t10=>∃ (i:Nat),i<=ns/\t10=.int .i64 (i:Int)/\Hid (∀ j,j < i->L.getD j false=true)) (fun t10=>ns - (RowKit.intOf t10).toNat)
 case atStart=>exact ⟨0,Nat.zero_le _,rfl,hid fun j hj=>absurd hj (Nat.not_lt_zero j)⟩
 case round =>
  obtain ⟨i,hi,rfl,HALL⟩:=hrel
  by_cases hlt:i < ns
  ·have j1:(i:Int) < (ns:Int):=by omega
   have j0:(0:Int)<=(i:Int):=by omega
   have v0:=HLC.out i hlt
   obtain ⟨b,hb⟩:=nmQ (L.getD i false)
   have HBB:=hid hb
   rw [hb] at v0
   clear hb
   cases b
   ·go_wp2_with fail
    go_ret
    exact ⟨rfl,HB6.out⟩
   ·have HALL2:=hid (show ∀ j,j < i + 1->L.getD j false=true from fun j hj=>by
     rcases Nat.lt_or_ge j i with h | h
     ·exact HALL.out j h
     ·obtain rfl:j=i:=by omega
      exact HBB.out)
    go_wp2_with fail
    refine ⟨⟨i + 1,by omega,by go_num,HALL2⟩,?_⟩
    simp [RowKit.intOf]
    omega
  ·have j1:¬ (i:Int) < (ns:Int):=by omega
   obtain rfl:i=ns:=by omega
   clear HLC
   obtain ⟨q0,q1,q2⟩:=HBX.out w6 HX6.out
   obtain ⟨c0,c1,c2,c3,c4⟩:=cells5 HN6.out
   have KR:=hid (Run_any (HGr.out.below HB6.out) (HT.out.on (HB6.out.mono hBt)) (Nat.le_trans hBt HB6.out.size) HH.out.1 HH.out.2.1 HH.out.2.2.1 HH.out.2.2.2 ((HTB.out.below HBBx.out).below HX6.out) (HLI.out.mono HB6.out) (by have:=HL8.out; rw [HLN.out]; omega) HR1.out)
   rw [HLN.out] at KR
   go_wp2_with fail
   refine KR.out.mono ?_
   rintro e w7 ⟨rfl,hb7⟩
   obtain ⟨R1,hR1⟩:=nmQ (LN - r.length)
   rw [hR1]
   have HE1:=hid hR1
   have HB7:=hid (HB6.out.trans (hb7.mono HB6.out.size))
   have HN7:=hid ((hb7.block _ (ltQ HN6.out)).trans HN6.out)
   have HBR:=hid (beg_run HH.out.1 HH.out.2.1 HH.out.2.2.1 HH.out.2.2.2 HLV.out (fun j hj=>HALL.out j (by rw [<-HNS.out]; exact hj)) HR1.out)
   rw [HLN.out,hR1] at HBR
   clear c0 c1 c2 c3 c4 q0 q1 q2 KR hb7 hR1
   cases b
   ·have HNO:=hid (show r ≠ []->∀ y,¬ LR.Der (mG G n (dS G n A)) [-1 - G.start] (l.take (R1 + 1) ++ y) from fun hr y=>by
     have h1:=beg_not HH.out.1 HH.out.2.1 HH.out.2.2.1 HH.out.2.2.2 HR1.out hr y
     rw [HLN.out,HE1.out] at h1
     exact h1)
    have r0:(0:Int)<=(R1:Int):=by omega
    have r1:(R1:Int)<=(lc:Int):=by have h1:=HE1.out; have h2:=HCAP.out; omega
    have rr:R1<=LN:=by have h1:=HE1.out; omega
    have HRR:=hid rr
    obtain ⟨wd,ewd⟩:=nmQ (w7.drew)
    have hbd:Below w7.heap.size w7 wd:=bdQ ewd
    have HBd:=hid (HB7.out.trans (hbd.mono HB7.out.size))
    have HND:=hid ((hbd.block _ (ltQ HN7.out)).trans HN7.out)
    have HS:=hid (show ∀ w',Below wd.heap.size wd w'->w'.cell? ⟨w.heap.size,0,none⟩=some (tv)/\w'.cell? ⟨w.heap.size,1,none⟩=some (ov)/\w'.cell? ⟨w.heap.size,2,none⟩=some (sv)/\w'.cell? ⟨w.heap.size,3,none⟩=some (pv)/\w'.cell? ⟨w.heap.size,4,none⟩=some (.int .i64 G.start) from fun w' hC=>by
     have nG:=(hC.block _ (ltQ HND.out)).trans HND.out
     exact cells5 nG)
    have HH0:=HS.out wd (Below.refl _ _)
    have KB1:=hid (Begins_any (n:=n) (D:=dS G n A) (HGr.out.below HBd.out) HH.out.1 (ints_take (k:=R1) (HLI.out.mono HBd.out) (by rw [HLN.out]; exact rr)) (by rw [List.length_take,HLN.out]; have:=HL8.out; omega) HLV.out (fun j hj=>HALL.out j (by rw [<-HNS.out]; exact hj)))
    clear hbd rr
    go_wp2_with fail
    refine region_T 5 (fun w'=>w'.cell? ⟨w.heap.size,0,none⟩=some (tv)/\w'.cell? ⟨w.heap.size,1,none⟩=some (ov)/\w'.cell? ⟨w.heap.size,2,none⟩=some (sv)/\w'.cell? ⟨w.heap.size,3,none⟩=some (pv)/\w'.cell? ⟨w.heap.size,4,none⟩=some (.int .i64 G.start)) (by kernel_rfl) (by rw [ewd]; exact HH0) (fun inv hHeld=>?_)
    rw [ewd]
    clear hHeld ewd
    iterate 3
     refine anyT_auto (v:=?_) rfl (by kernel_rfl) (fun _ _ _ h=>h) (Or.inl ⟨by rfl,?_⟩) HH0 inv (fun inv=>?_)
     rotate_left
     ·intro w hSw
      try dsimp only at hSw
      go_simp
      try with_reducible rfl
     simp only [Act.put,sjA,sj0,sjS]
    refine anyT_take (i:=3) (oi:={dst:=some 69,op:=.slice 43 (.tmp 67) none (some (.tmp 68)) none,type:=43,pos := "law.go:171",after:=#[{on:=1,ground:=.data},{on:=2,ground:=.data}],guard:=none}) (v:=?_) rfl (by kernel_rfl) (by kernel_rfl) (by kernel_rfl) (by decide) (by decide) (by kernel_rfl) (by kernel_rfl) (fun _ _ _ h=>h) (Or.inl ⟨by rfl,?_⟩) HH0 inv (fun inv=>?_)
    rotate_left
    ·intro w hSw
     try dsimp only at hSw
     go_simp
     try with_reducible rfl
    simp only [Act.put,sjA,sj0,sjS]
    refine anyT_next (i:=4) (o:={dst:=some 70,op:=.call {callee:=.value (.func 42),args:=#[.tmp 66,.tmp 69],argTypes:=#[27,43]},type:=4,pos := "law.go:171",after:=#[{on:=0,ground:=.data},{on:=3,ground:=.data}],guard:=none}) (by kernel_rfl) rfl (by decide) inv (fun inv K' hK=>?_)
    go_simp
    refine KB1.out.mono ?_
    rintro e w8 ⟨bb,rfl,hiff,hb8⟩
    have HB8:=hid (HBd.out.trans (hb8.mono HBd.out.size))
    have HN8:=hid ((hb8.block _ (ltQ HND.out)).trans HND.out)
    obtain rfl:bb=true:=hiff.2 HBR.out
    have HH1:=HS.out w8 hb8
    clear hiff hb8
    refine hK.out _ _ HH1 ?_
    clear hK K' HH0
    try simp only [Act.put,sjA,sj0,sjS]
    refine anyT_one (i:=5) (o:={dst:=some 14,op:=.assign (.tmp 70),type:=4,pos := "law.go:171",after:=#[{on:=4,ground:=.data},{on:=4,ground:=.chain},{on:=0,ground:=.phase},{on:=1,ground:=.phase},{on:=2,ground:=.phase},{on:=3,ground:=.phase},{on:=4,ground:=.phase}],guard:=none}) (by kernel_rfl) rfl (fun K' hK=>?_)
    go_simp
    refine hK.out _ _ (fun h=>absurd h (by decide)) ?_
    clear hK K'
    try simp only [Act.put,sjA,sj0,sjS]
    refine anyT_done (by kernel_rfl) ?_ _
    clear HS HH1
    by_cases hRL:R1=LN
    ·have z1:((R1:Int) == (LN:Int))=true:=by rw [hRL]; simp
     clear hRL
     go_wp2_with fail
     go_ret
     exact ⟨rfl,HB8.out⟩
    ·have z1:((R1:Int) == (LN:Int))=false:=by rw [beq_eq_false_iff_ne]; omega
     have hr:r ≠ []:=fun e=>by have h1:=HE1.out; rw [e] at h1; simp at h1; omega
     have HNO2:=hid (HNO.out hr)
     have s0:(0:Int)<=((R1 + 1:Nat):Int):=by omega
     have s1:((R1 + 1:Nat):Int)<=(lc:Int):=by have h1:=HRR.out; have h2:=HCAP.out; omega
     have rr:R1 + 1<=LN:=by have h1:=HRR.out; omega
     have R8:(R1:Int)<=8:=by have:=HL8.out; omega
     have hw:IntKind.i64.wrap ((R1:Int) + 1)=((R1 + 1:Nat):Int):=by rw [wrap_small (by omega) (by omega)]; omega
     obtain ⟨R2,hR2⟩:=nmQ (R1 + 1)
     rw [hR2] at s0 s1 rr hw HNO2
     obtain ⟨we,ewe⟩:=nmQ (w8.drew)
     have hbe:Below w8.heap.size w8 we:=bdQ ewe
     have HBe:=hid (HB8.out.trans (hbe.mono HB8.out.size))
     have HNE:=hid ((hbe.block _ (ltQ HN8.out)).trans HN8.out)
     have HS:=hid (show ∀ w',Below we.heap.size we w'->w'.cell? ⟨w.heap.size,0,none⟩=some (tv)/\w'.cell? ⟨w.heap.size,1,none⟩=some (ov)/\w'.cell? ⟨w.heap.size,2,none⟩=some (sv)/\w'.cell? ⟨w.heap.size,3,none⟩=some (pv)/\w'.cell? ⟨w.heap.size,4,none⟩=some (.int .i64 G.start) from fun w' hC=>by
      have nG:=(hC.block _ (ltQ HNE.out)).trans HNE.out
      exact cells5 nG)
     have HH0:=HS.out we (Below.refl _ _)
     have KB2:=hid (Begins_any (n:=n) (D:=dS G n A) (HGr.out.below HBe.out) HH.out.1 (ints_take (k:=R2) (HLI.out.mono HBe.out) (by rw [HLN.out]; exact rr)) (by rw [List.length_take,HLN.out]; have:=HL8.out; omega) HLV.out (fun j hj=>HALL.out j (by rw [<-HNS.out]; exact hj)))
     clear hbe rr hr hRL hR2
     go_wp2_with fail
     refine region_T 6 (fun w'=>w'.cell? ⟨w.heap.size,0,none⟩=some (tv)/\w'.cell? ⟨w.heap.size,1,none⟩=some (ov)/\w'.cell? ⟨w.heap.size,2,none⟩=some (sv)/\w'.cell? ⟨w.heap.size,3,none⟩=some (pv)/\w'.cell? ⟨w.heap.size,4,none⟩=some (.int .i64 G.start)) (by kernel_rfl) (by rw [ewe]; exact HH0) (fun inv hHeld=>?_)
     rw [ewe]
     clear hHeld ewe
     iterate 4
      refine anyT_auto (v:=?_) rfl (by kernel_rfl) (fun _ _ _ h=>h) (Or.inl ⟨by rfl,?_⟩) HH0 inv (fun inv=>?_)
      rotate_left
      ·intro w hSw
       try dsimp only at hSw
       go_simp
       try with_reducible rfl
      simp only [Act.put,sjA,sj0,sjS]
     refine anyT_take (i:=4) (oi:={dst:=some 83,op:=.slice 43 (.tmp 80) none (some (.tmp 82)) none,type:=43,pos := "law.go:175",after:=#[{on:=1,ground:=.data},{on:=3,ground:=.data}],guard:=none}) (v:=?_) rfl (by kernel_rfl) (by kernel_rfl) (by kernel_rfl) (by decide) (by decide) (by kernel_rfl) (by kernel_rfl) (fun _ _ _ h=>h) (Or.inl ⟨by rfl,?_⟩) HH0 inv (fun inv=>?_)
     rotate_left
     ·intro w hSw
      try dsimp only at hSw
      go_simp
      try with_reducible rfl
     simp only [Act.put,sjA,sj0,sjS]
     refine anyT_next (i:=5) (o:={dst:=some 84,op:=.call {callee:=.value (.func 42),args:=#[.tmp 79,.tmp 83],argTypes:=#[27,43]},type:=4,pos := "law.go:175",after:=#[{on:=0,ground:=.data},{on:=4,ground:=.data}],guard:=none}) (by kernel_rfl) rfl (by decide) inv (fun inv K' hK=>?_)
     go_simp
     refine KB2.out.mono ?_
     rintro e w9 ⟨bb,rfl,hiff,hb9⟩
     have HB9:=hid (HBe.out.trans (hb9.mono HBe.out.size))
     obtain rfl:bb=false:=by
      cases bb with
      | false=>rfl
      | true=>obtain ⟨y,hy⟩:=hiff.1 rfl; exact absurd hy (HNO2.out y)
     have HH1:=HS.out w9 hb9
     clear hiff hb9
     refine hK.out _ _ HH1 ?_
     clear hK K' HH0
     try simp only [Act.put,sjA,sj0,sjS]
     refine anyT_one (i:=6) (o:={dst:=some 15,op:=.assign (.tmp 84),type:=4,pos := "law.go:175",after:=#[{on:=5,ground:=.data},{on:=5,ground:=.chain},{on:=0,ground:=.phase},{on:=1,ground:=.phase},{on:=2,ground:=.phase},{on:=3,ground:=.phase},{on:=4,ground:=.phase},{on:=5,ground:=.phase}],guard:=none}) (by kernel_rfl) rfl (fun K' hK=>?_)
     go_simp
     refine hK.out _ _ (fun h=>absurd h (by decide)) ?_
     clear hK K'
     try simp only [Act.put,sjA,sj0,sjS]
     refine anyT_done (by kernel_rfl) ?_ _
     clear HS HH1
     go_wp2_with fail
     go_ret
     exact ⟨rfl,HB9.out⟩
   ·have hr:=(LR.runs_der (machine_ok HH.out.1 HH.out.2.1 HH.out.2.2.1 (fun i k hi hk=>clX_none HH.out.2.2.2 i k hi (by omega))) (fun h=>by have:=(S13.valid_few HH.out.1).1; omega) HR1.out).1
    obtain rfl:R1=LN:=by have h1:=HE1.out; rw [hr] at h1; simpa using h1.symm
    have HBR2:=hid (show ∃ y,LR.Der (mG G n (dS G n A)) [-1 - G.start] (l ++ y) from by
     have h1:=HBR.out
     rw [List.take_of_length_le (by rw [HLN.out]; exact Nat.le_refl _)] at h1
     exact h1)
    obtain ⟨c0,c1,c2,c3,c4⟩:=cells5 HN7.out
    have KB1:=hid (Begins_any (n:=n) (D:=dS G n A) (HGr.out.below HB7.out) HH.out.1 (HLI.out.mono HB7.out) (by rw [HLN.out]; have:=HL8.out; omega) HLV.out (fun j hj=>HALL.out j (by rw [<-HNS.out]; exact hj)))
    clear hr
    go_wp2_with fail
    refine KB1.out.mono ?_
    rintro e w8 ⟨bb,rfl,hiff,hb8⟩
    have HB8:=hid (HB7.out.trans (hb8.mono HB7.out.size))
    obtain rfl:bb=true:=hiff.2 HBR2.out
    clear hiff hb8 KB1 c0 c1 c2 c3 c4
    go_wp2_with fail
    go_ret
    exact ⟨rfl,HB8.out⟩
end Go.Proofs.YticmnfmijdgmbaaGreatDoor

/- A law's last step, for a walk that lays new memory alone: whatever lay before the call lies behind it. -/
namespace Go.Proofs.YticmnfmijdgmbaaGreatDoor
open Go Go.RowKit Go.WideShapes Go.ChangeShapes
theorem post_kept {H:Type} {enc:TypeId × Value->H} {P:Program} {f:Func} {s:ChangeSpec} {apart fresh handsOn again:Bool} {W W':World} {args:Array Value} {v:Value} {ds gs:List (DataW H)} {before pa pv:List MemPlace}
  (hW:DataW.Whole enc P f.params.toList s.vars apart W args.toList ds gs before)
  (hres:∀ (b:Nat) (sp:Nat->Bool) (hd:Bool),DataW.TrodAll enc P W' b sp hd f.resultTypes.toList (v.resultList f.resultTypes.size) (s.fn H (ds ++ gs)).results [])
  (hargs:∀ sp:Nat->Bool,(∀ p ∈ before,sp p.block=true)->DataW.TrodAll enc P W' 0 sp true f.params.toList args.toList (s.fn H (ds ++ gs)).args pa)
  (hvars:∀ sp:Nat->Bool,(∀ p ∈ before,sp p.block=true)->DataW.TrodVars enc P W' sp s.vars (s.fn H (ds ++ gs)).vars pv)
  (hps:before=pa ++ pv) (hb:Below W.heap.size W W')
  (hok:∀ (j:Nat) (t:TypeId) (r:Value),f.resultTypes[j]?=some t->(v.resultList f.resultTypes.size)[j]?=some r->Value.okWide P W' .any 0 t r) :
  s.post enc P f apart fresh handsOn again W args v W':=by
 have old:∀ p ∈ before,decide (p.block < W.heap.size)=true:=fun p hp=>decide_eq_true (hW.lt p hp)
 have inside:∀ p,p ∈ pa ++ pv->p ∈ before:=fun p hp=>by rw [hps]; exact hp
 refine ⟨ds,gs,before,[],pa,pv,hW,hres _ _ _,hargs _ old,hvars _ old,World.keptBut_mono (fun p hp=>⟨hp,?_⟩) (hb.frame (· ∈ before)),fun _=>⟨hok,_,_,[] ++ pa ++ pv,⟨[] ++ pa,pv,trodAll_append (hargs _ fun _ _=>rfl) (hres _ _ _),hvars _ fun _ _=>rfl,rfl,?_,?_⟩,?_⟩⟩
 ·exact .inr (List.mem_append.1 (hps ▸ hp))
 ·intro b off hp
  have hW0:=hW
  obtain ⟨_,_,_,_,_,hz,_⟩:=hW
  have hin:=inside _ (by simpa using hp)
  exact (hb.frozen (p:=⟨b,off,none⟩) (hW0.lt _ hin)).trans (hz b off hin)
 ·intro ha
  obtain ⟨_,_,_,_,_,_,hn⟩:=hW
  simpa [hps] using hn ha
 ·intro p hp _
  exact inside p (by simpa using hp)
end Go.Proofs.YticmnfmijdgmbaaGreatDoor

/- A law's last step, whatever the types of its parameters. -/
namespace Go.Proofs.YticmnfmijdgmbaaGreatDoor
open Go Go.RowKit Go.WideShapes Go.ChangeShapes
theorem all_stay {H:Type} {enc:TypeId × Value->H} {P:Program} (hl:laidOutB P=true) {W W':World} (hb:Below W.heap.size W W') (sp:Nat->Bool) :
  ∀ (ts:List TypeId) (vs:List Value) (ds:List (DataW H)) (ps:List MemPlace),(ts.all fun t=>P.readableRec t && decide (t < P.types.size))=true->(∀ x ∈ ps,x.block < W.heap.size)->(∀ x ∈ ps,sp x.block=true) ->
   DataW.TrodAll enc P W 0 (fun _=>true) true ts vs ds ps->DataW.TrodAll enc P W' 0 sp true ts vs ds ps
 | [],[],[],_,_,_,_,h=>h
 | t :: ts,v :: vs,d :: ds,_,ht,hlt,hsp,h=>by
  obtain ⟨p,q,h1,h2,rfl⟩:=h
  simp only [List.all_cons,Bool.and_eq_true,decide_eq_true_eq] at ht
  exact ⟨p,q,WideElems.Trod_stays hl ht.1.1 ht.1.2 h1 (fun x hx=>hb.same (hlt x (List.mem_append_left _ hx))) (fun x hx=>hsp x (List.mem_append_left _ hx)),
   all_stay hl hb sp ts vs ds q (by simpa using ht.2) (fun x hx=>hlt x (List.mem_append_right _ hx)) (fun x hx=>hsp x (List.mem_append_right _ hx)) h2,rfl⟩
 | [],[],_ :: _,_,_,_,_,h=>h.elim
 | [],_ :: _,_,_,_,_,_,h=>by cases ‹List (DataW H)› <;> exact h.elim
 | _ :: _,[],_,_,_,_,_,h=>by cases ‹List (DataW H)› <;> exact h.elim
 | _ :: _,_ :: _,[],_,_,_,_,h=>h.elim
theorem post_law {H:Type} {enc:TypeId × Value->H} {P:Program} {f:Func} {s:ChangeSpec} {apart fresh handsOn again:Bool} {W W':World} {args:Array Value} {ds gs:List (DataW H)} {before:List MemPlace}
  (hl:laidOutB P=true) (ht:(f.params.toList.all fun t=>P.readableRec t && decide (t < P.types.size))=true) (hv:s.vars=[]) (t:TypeId) (hf:f.resultTypes=#[t]) (hu:P.underlying t=some .bool)
  (hW:DataW.Whole enc P f.params.toList s.vars apart W args.toList ds gs before)
  (hA:DataW.TrodAll enc P W 0 (fun _=>true) true f.params.toList args.toList ds before)
  (hres:(s.fn H (ds ++ gs)).results=[.lit (.bool true)]) (hargs:(s.fn H (ds ++ gs)).args=ds) (hvs:(s.fn H (ds ++ gs)).vars=[]) (hb:Below W.heap.size W W') :
  s.post enc P f apart fresh handsOn again W args (.bool true) W':=by
 have hlt:∀ x ∈ before,x.block < W.heap.size:=fun x hx=>hW.lt x hx
 refine post_kept (pa:=before) (pv:=[]) hW (fun _ _ _=>?_) (fun sp hsp=>?_) (fun sp _=>?_) (by simp) hb ?_
 ·rw [hres,hf]
  exact trodAll_cons_mk (shut_bool hu _) trodAll_mk0
 ·rw [hargs]
  exact all_stay hl hb sp _ _ _ _ ht hlt hsp hA
 ·rw [hvs,hv]
  rfl
 ·exact ok_one hf rfl (okWide_bool_mk hu _)
end Go.Proofs.YticmnfmijdgmbaaGreatDoor
