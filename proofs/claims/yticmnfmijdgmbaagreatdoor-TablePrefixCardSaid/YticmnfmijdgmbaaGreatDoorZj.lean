/- table.All: all that can be done, of each state, by each column. -/
import Derived.Test.YticmnfmijdgmbaaGreatDoorZg
import Derived.Test.YticmnfmijdgmbaaGreatDoorZb
set_option linter.unusedVariables false
set_option linter.unusedSimpArgs false
namespace Go.Proofs.YticmnfmijdgmbaaGreatDoor
open Go Go.RowKit Go.Lib
open X14 (It iterB BuiltOk BuiltMany closeX)
open S13 (u64 bitN top E0 F0 Sub)
open S13.X15 (Pl LeastA askX places cxB)
open S16
theorem info87:(Tryz.prog.info? 87).map (fun i=>(i.zero,i.size,i.bytes))=some (some (.slice none 0 0),1,24):=by kernel_rfl
theorem info85:(Tryz.prog.info? 85).map (fun i=>(i.zero,i.size,i.bytes))=some (some (.slice none 0 0),1,24):=by kernel_rfl
theorem passed_len (G:GD) (l:List It) (us:List Nat) (h:l.length<=1000000):(passedX G l us).length<=1000000:=by
 unfold passedX
 rw [List.length_map]
 exact Nat.le_trans (doneN_len G l us _) h
theorem passed_low {G:GD} {l:List It} {us:List Nat} (h:∀ x ∈ us,x < 18446744073709551616):∀ p ∈ passedX G l us,p.2 < 18446744073709551616:=fun p hp=>by
 unfold passedX at hp
 obtain ⟨q,_,rfl⟩:=List.mem_map.1 hp
 show us.getD _ 0 < _
 rw [gdQ]
 cases hq:us[ixN (q,((X14.rightX G q).length:Int)) l]? with
 | none=>decide
 | some x=>exact h x (List.mem_of_getElem? hq)
theorem pick5:∀ a,a < 5->∀ b,b < 5->([0,1,3,6,2]:List Nat).getD a 0=([0,1,3,6,2]:List Nat).getD b 0->a=b:=by decide
theorem pick4:∀ a,a < 4->∀ b,b < 4->([0,1,3,2]:List Nat).getD a 0=([0,1,3,2]:List Nat).getD b 0->a=b:=by decide
theorem states_rows {B:Nat} {w:World} {R:List (Value × Nat × List Value)} {CV:List (Value × List Value)} {v:Value} {D:Nat->Nat->List It} {m n:Nat} (h2:(gI B 2 R).ok w) (h1:(gI B 1 (CV.map fun c=>(c.1,c.2.length,c.2))).ok w) (hq:ownsT w B 1 v n (CV.map (·.1))) (hn:CV.length=n) (hs:StatesOk D m R CV) :
  RowsAt w v n (fun i u=>RowsAt w u m (fun k u'=>ItemsAt w u' (D i k))):=by
 have e:(CV.map (·.1)).length=n:=by rw [List.length_map,hn]
 rw [<-e] at hq ⊢
 refine RowsAt.of_own hq fun i u hu=>?_
 rw [List.getElem?_map] at hu
 cases hc:CV[i]? with
 | none=>rw [hc] at hu; cases hu
 | some c =>
  rw [hc] at hu
  obtain rfl:c.1=u:=Option.some.inj hu
  obtain ⟨hl,ho⟩:=hs i c hc
  rw [<-hl]
  refine RowsAt.of_own (h1 (c.1,c.2.length,c.2) (List.mem_map.2 ⟨c,List.mem_of_getElem? hc,rfl⟩)) fun k u' hk=>?_
  exact ownsT.items (h2 _ (ho k u' hk))
theorem valid_gram {G:GD} {gv:Value} {w:World} (h:Gram w gv G):Calls Tryz.prog 58 #[gv] w fun e w'=>e=.returned (.bool (validB G))/\Below w.heap.size w w':=by
 obtain ⟨_,_,_,_,_,_,h⟩:=h
 exact Valid_any h
def AllTP (G:GD) (w:World) (e:Ending) (w':World):Prop:=
 Below w.heap.size w w'/\((validB G=false/\e=.returned (.tuple #[.slice none 0 0,.int .i64 1]))\/(validB G=true/\∃ n,(BuiltMany G n/\e=.returned (.tuple #[.slice none 0 0,.int .i64 4])) \/
  (BuiltOk G n/\∃ v A,e=.returned (.tuple #[v,.int .i64 0])/\LeastA (askX (cxB G n (E0 G) (F0 G))) (places (cxB G n (E0 G) (F0 G)) n) (0,(-1,0)) (bitN 63) A /\
   RowsAt w' v n (fun i u=>RowsAt w' u (G.terms.length + 1) (fun k u'=>ItemsAt w' u' (deedsS G (iterB G n).nx (cxB G n (E0 G) (F0 G)).C A i k))))))
set_option maxRecDepth 100000 in
set_option maxHeartbeats 16000000 in
theorem AllT_any {G:GD} {gv:Value} {w:World} {Bt:Nat} (h:Gram w gv G) (ht:Tab Bt w) (hBt:Bt<=w.heap.size):Calls Tryz.prog 35 #[gv] w (AllTP G w):=by
 have HGr:=hid h
 have HT:=hid ht
 obtain ⟨tv,ov,sv,pv,tf,rv,h⟩:=h
 have hgv:=h.eq
 subst hgv
 obtain ⟨to_,tc,rfl,htn,_⟩:=h.terms
 obtain ⟨T,hT⟩:=nmQ (G.terms.length)
 have HTL:=hid hT
 rw [hT] at HGr ⊢
 obtain ⟨W1,e1⟩:=nmQ (w.alloc (.cells #[.slice to_ T tc,ov,sv,pv,.int .i64 G.start] 27))
 have n1:W1.heap[w.heap.size]?=some (.cells #[.slice to_ T tc,ov,sv,pv,.int .i64 G.start] 27 (0,0)):=nbQ e1
 have f1:=foot_add1 (l:=[]) (Foot.empty w w.heap.size (Nat.le_refl _)) e1 n1
 have HB1:=hid f1.bel
 have HF1:=hid f1
 have HS:=hid (show ∀ w',Below W1.heap.size W1 w'->w'.cell? ⟨w.heap.size,0,none⟩=some (.slice to_ T tc)/\w'.cell? ⟨w.heap.size,1,none⟩=some ov/\w'.cell? ⟨w.heap.size,2,none⟩=some sv/\w'.cell? ⟨w.heap.size,3,none⟩=some pv/\w'.cell? ⟨w.heap.size,4,none⟩=some (.int .i64 G.start) from fun w' hC =>
  ⟨cell_below hC (coQ n1 0),cell_below hC (coQ n1 1),cell_below hC (coQ n1 2),cell_below hC (coQ n1 3),cell_below hC (coQ n1 4)⟩)
 obtain ⟨c0,c1,c2,c3,c4⟩:=HS.out W1 (Below.refl _ _)
 have KV:=hid (valid_gram (HGr.out.below HB1.out))
 clear h f1 n1 hT ht
 go_enter Tryz.func35,Tryz.ntmps35
 go_wp2_with fail
 refine KV.out.mono ?_
 rintro e w2 ⟨rfl,hb2⟩
 clear c0 c1 c2 c3 c4 e1 KV
 obtain ⟨vb,hvb⟩:=nmQ (validB G)
 have HVB:=hid hvb
 rw [hvb]
 have HB2:=hid (HB1.out.trans (hb2.mono HB1.out.size))
 have HC2:=hid hb2
 cases vb with
 | false =>
  clear hb2 hvb
  go_wp2_with fail
  refine bodyPost_ret (results_tmp2 rfl _ _ _) rfl ?_
  exact ⟨HB2.out,.inl ⟨HVB.out,rfl⟩⟩
 | true =>
  obtain ⟨c0,c1,c2,c3,c4⟩:=HS.out w2 HC2.out
  have KA:=hid (All_any (HGr.out.below HB2.out) (HT.out.on (HB2.out.mono hBt)) (Nat.le_trans hBt HB2.out.size))
  clear hb2 hvb
  go_wp2_with fail
  refine KA.out.mono ?_
  rintro e w3 ⟨hb3,hcase⟩
  have HB3:=hid (HB2.out.trans (hb3.mono HB2.out.size))
  have HC3:=hid (HC2.out.trans (hb3.mono HC2.out.size))
  clear c0 c1 c2 c3 c4 KA hb3
  rcases hcase with ⟨hV,rfl⟩ | ⟨hV,n,⟨hM,rfl⟩ | ⟨hO,v,A,rfl,hL,hK⟩⟩
  ·exact absurd (hV.symm.trans HVB.out) (by decide)
  ·go_wp2_with fail
   refine bodyPost_ret (results_tmp2 rfl _ _ _) rfl ?_
   exact ⟨HB3.out,.inr ⟨hV,n,.inl ⟨hM,rfl⟩⟩⟩
  obtain ⟨c0,c1,c2,c3,c4⟩:=HS.out w3 HC3.out
  have KB:=hid (Build_any (HGr.out.below HB3.out) (HT.out.on (HB3.out.mono hBt)) (Nat.le_trans hBt HB3.out.size))
  have HLK:=hid (And.intro hL hK)
  have HO:=hid (And.intro hO hV)
  obtain ⟨vo,vc,rfl⟩:∃ vo vc,v=.slice vo n vc:=by
   obtain ⟨a,c,e,_⟩:=hK
   exact ⟨a,c,e⟩
  clear hL hK hO hV
  go_wp2_with fail
  refine KB.out.mono ?_
  rintro e w4 ⟨hb4,hcase⟩
  have HB4:=hid (HB3.out.trans (hb4.mono HB3.out.size))
  have HC4:=hid (HC3.out.trans (hb4.mono HC3.out.size))
  have HD4:=hid hb4
  clear c0 c1 c2 c3 c4 KB hb4
  rcases hcase with ⟨hV,rfl⟩ | ⟨hV,m,⟨hM,rfl⟩ | ⟨hO,av,rfl,hau⟩⟩
  ·exact absurd (hV.symm.trans HVB.out) (by decide)
  ·exact (X14.Built.not HO.out.1 hM).elim
  obtain rfl:=X14.Built.one hO HO.out.1
  obtain ⟨kv,nv,rfl,hk1,hk2⟩:=hau
  obtain ⟨ko,kl,kc,rfl⟩:∃ ko kl kc,kv=.slice ko kl kc:=by
   obtain ⟨o,c,e,_⟩:=hk1.len
   exact ⟨_,_,_,e⟩
  obtain ⟨no,nl,nc,rfl⟩:∃ no nl nc,nv=.slice no nl nc:=by
   obtain ⟨o,c,e,_⟩:=hk2.len
   exact ⟨_,_,_,e⟩
  have HAU:=hid (show AutAt w4 (.agg #[.slice ko kl kc,.slice no nl nc]) (iterB G m).ker (iterB G m).nx from ⟨_,_,rfl,hk1,hk2⟩)
  have HF4:=hid (Foot.empty w4 w4.heap.size (Nat.le_refl _))
  obtain ⟨W5,e5⟩:=nmQ (w4.alloc (.cells #[.slice none 0 0,.slice none 0 0] 55))
  have n5:W5.heap[w4.heap.size]?=some (.cells #[.slice none 0 0,.slice none 0 0] 55 (0,0)):=nbQ e5
  have f5:=foot_add1 (l:=[]) HF4.out e5 n5
  have vn0:W5.heap[w4.heap.size]?=some (.cells #[.slice none 0 0,.slice none 0 0] 55 (0,0)):=n5
  have vc0:W5.cell? ⟨w4.heap.size,0,none⟩=some (.slice none 0 0):=coQ vn0 0
  have vf0:=foQ vn0 0
  obtain ⟨u1,ve0⟩:=nmQ (W5.setCell ⟨w4.heap.size,0,none⟩ (.slice ko kl kc))
  have vn1:u1.heap[w4.heap.size]?=some (.cells #[.slice ko kl kc,.slice none 0 0] 55 (0,0)):=hsQ ve0 vn0
  have vc1:u1.cell? ⟨w4.heap.size,1,none⟩=some (.slice none 0 0):=coQ vn1 1
  have vf1:=foQ vn1 1
  obtain ⟨u2,ve1⟩:=nmQ (u1.setCell ⟨w4.heap.size,1,none⟩ (.slice no nl nc))
  have vn2:u2.heap[w4.heap.size]?=some (.cells #[.slice ko kl kc,.slice no nl nc] 55 (0,0)):=hsQ ve1 vn1
  have f6:=foot_set (k:=0) (i:=0) (v:=.slice ko kl kc) f5 rfl
  rw [ve0] at f6
  have f7:=foot_set (m:=[blkI w4.heap.size (.cells #[.slice ko kl kc,.slice none 0 0] 55 (0,0))]) (k:=0) (i:=1) (v:=.slice no nl nc) f6 rfl
  rw [ve1] at f7
  have HB5:=hid (show Below w4.heap.size w4 u2 from by
   rw [<-ve1,<-ve0,<-e5]
   exact ((((Below.refl _ _).alloc (Nat.le_refl _) _).setCell (Nat.le_refl _) _).setCell (Nat.le_refl _) _))
  have HF:=hid (show Foot w4.heap.size w4 u2 [blkI w4.heap.size (.cells #[.slice ko kl kc,.slice no nl nc] 55 (0,0)),gI w4.heap.size 2 [],gI w4.heap.size 1 (([]:List (Value × List Value)).map fun c=>(c.1,c.2.length,c.2)),queI w4.heap.size 1 (.slice none 0 0) 0 (([]:List (Value × List Value)).map (·.1))] from foot_newrow (foot_gnew (foot_gnew f7)))
  obtain ⟨c0,c1,c2,c3,c4⟩:=HS.out w4 HC4.out
  clear hk1 hk2 f5 f6 f7 n5 vn0 vn1 vn2
  go_wp2_with fail
  clear vc0 vf0 vc1 vf1 ve0 ve1 e5 c0 c1 c2 c3 c4
  go_loopw [7,34] (fun t7 t34 wr=>∃ (i:Nat) (v:Value) (R:List (Value × Nat × List Value)) (CV:List (Value × List Value)),i<=m/\v=t7/\t34=.int .i64 (i:Int)/\CV.length=i/\StatesOk (deedsS G (iterB G m).nx (cxB G m (E0 G) (F0 G)).C A) (T + 1) R CV/\Hid (Foot w4.heap.size w4 wr [blkI w4.heap.size (.cells #[.slice ko kl kc,.slice no nl nc] 55 (0,0)),gI w4.heap.size 2 R,gI w4.heap.size 1 (CV.map fun c=>(c.1,c.2.length,c.2)),queI w4.heap.size 1 v i (CV.map (·.1))])) (fun _ t34 _=>m - (RowKit.intOf t34).toNat)
  case atStart=>exact ⟨0,_,[],[],Nat.zero_le _,rfl,rfl,rfl,StatesOk.nil _ _ _,HF⟩
  case round =>
   clear HF
   obtain ⟨i,v,R,CV,hiN,rfl,rfl,hcv,hst,HF⟩:=hrel
   have HCV:=hid (And.intro hcv hst)
   clear hcv hst
   by_cases hlt:i < m
   ·have j1:(i:Int) < (m:Int):=by omega
    have j0:(0:Int)<=(i:Int):=by omega
    obtain ⟨la,lc,e,_,hcs⟩:=HLK.out.2
    injection e with e8 _ e9
    subst e8
    subst e9
    obtain ⟨lb,lf,rfl,hq⟩:=hcs (by omega)
    obtain ⟨iv,av,z0,z1,hI,hU⟩:=hq i hlt
    have HI:=hid hI
    have HU:=hid hU
    obtain ⟨io,ic,rfl,_⟩:=hI
    obtain ⟨ao,ac,rfl,_⟩:=hU
    have HX:=hid (HD4.out.trans (HF.out.bel.mono HD4.out.size))
    have r0:=cell_below HX.out z0
    have r1:=cell_below HX.out z1
    rw [List.length_map] at r1
    obtain ⟨NN,hNN⟩:=nmQ (((cxB G m (E0 G) (F0 G)).C i).length)
    rw [hNN] at r0 r1
    have HNN:=hid hNN
    obtain ⟨wa,ea⟩:=nmQ (wr.alloc (.cells #[.slice none 0 0,.slice none 0 0] 48))
    have na:wa.heap[wr.heap.size]?=some (.cells #[.slice none 0 0,.slice none 0 0] 48 (0,0)):=nbQ ea
    have hfa:=foot_add1 HF.out ea na
    have vn0:wa.heap[wr.heap.size]?=some (.cells #[.slice none 0 0,.slice none 0 0] 48 (0,0)):=na
    have vc0:wa.cell? ⟨wr.heap.size,0,none⟩=some (.slice none 0 0):=coQ vn0 0
    have vf0:=foQ vn0 0
    obtain ⟨u1,ve0⟩:=nmQ (wa.setCell ⟨wr.heap.size,0,none⟩ (.slice io NN ic))
    have vn1:u1.heap[wr.heap.size]?=some (.cells #[.slice io NN ic,.slice none 0 0] 48 (0,0)):=hsQ ve0 vn0
    have vc1:u1.cell? ⟨wr.heap.size,1,none⟩=some (.slice none 0 0):=coQ vn1 1
    have vf1:=foQ vn1 1
    obtain ⟨u2,ve1⟩:=nmQ (u1.setCell ⟨wr.heap.size,1,none⟩ (.slice ao NN ac))
    have vn2:u2.heap[wr.heap.size]?=some (.cells #[.slice io NN ic,.slice ao NN ac] 48 (0,0)):=hsQ ve1 vn1
    have f6:=foot_set (k:=0) (i:=0) (v:=.slice io NN ic) hfa rfl
    rw [ve0] at f6
    have f7:=foot_set (m:=[blkI wr.heap.size (.cells #[.slice io NN ic,.slice none 0 0] 48 (0,0))]) (k:=0) (i:=1) (v:=.slice ao NN ac) f6 rfl
    rw [ve1] at f7
    have HFu:=hid f7
    have HBu:=hid (HB4.out.trans (f7.bel.mono HB4.out.size))
    have HXu:=hid (HD4.out.trans (f7.bel.mono HD4.out.size))
    have q0:u2.cell? ⟨wr.heap.size,0,none⟩=some (.slice io NN ic):=coQ vn2 0
    have q1:u2.cell? ⟨wr.heap.size,1,none⟩=some (.slice ao NN ac):=coQ vn2 1
    obtain ⟨c0,c1,c2,c3,c4⟩:=HS.out u2 (HC4.out.trans (f7.bel.mono HC4.out.size))
    have KP:=hid (passed_any (us:=((cxB G m (E0 G) (F0 G)).C i).map fun x=>A (i,x)) (HGr.out.below HBu.out) HO.out.2 (HI.out.below HXu.out) (Nat.le_trans (cx_len HO.out.2 m (E0 G) (F0 G) i) (by decide)) (RowAt.mono HU.out fun _ _ _ hc=>cell_below HXu.out hc) (List.length_map _))
    rw [List.length_map,hNN] at KP
    clear hcs hq z0 z1 f6 f7 hfa na vn0 vn1 vn2 hNN
    go_wp2_with fail
    refine KP.out.mono ?_
    rintro e w6 ⟨pv6,rfl,hb6,hpv⟩
    clear c0 c1 c2 c3 c4 q0 q1 r0 r1 vc0 vf0 vc1 vf1 ve0 ve1 ea KP
    have hT60:=(valid_parts HO.out.2).1
    rw [HTL.out] at hT60
    obtain ⟨PS,hPS⟩:=nmQ (passedX G ((cxB G m (E0 G) (F0 G)).C i) (((cxB G m (E0 G) (F0 G)).C i).map fun x=>A (i,x)))
    have HPS:=hid hPS
    rw [hPS] at hpv
    obtain ⟨po,pc2,rfl⟩:=hpv.shape
    have f8:=HFu.out.add (queI w4.heap.size 2 (.slice po PS.length pc2) PS.length (pC PS)) hb6 (ownsT_weaken hpv HFu.out.bel.size) (fun b hb=>ownsT_range hpv b hb)
    have HF:=hid (show Foot w4.heap.size w4 w6 [blkI w4.heap.size (.cells #[.slice ko kl kc,.slice no nl nc] 55 (0,0)),gI w4.heap.size 2 R,gI w4.heap.size 1 (CV.map fun c=>(c.1,c.2.length,c.2)),queI w4.heap.size 1 v i (CV.map (·.1)),blkI wr.heap.size (.cells #[.slice io NN ic,.slice ao NN ac] 48 (0,0)),queI w4.heap.size 2 (.slice po PS.length pc2) PS.length (pC PS),queI w4.heap.size 1 (.slice none 0 0) 0 []] from foot_newrow f8)
    obtain ⟨c0,c1,c2,c3,c4⟩:=HS.out w6 (HC4.out.trans (HF.out.bel.mono HC4.out.size))
    clear hb6 hpv f8 HFu HBu HXu hPS
    generalize wr.heap.size=b48 at *
    go_wp2_with fail
    clear c0 c1 c2 c3 c4
    go_loopw [11,46] (fun t11 t46 wr=>∃ (k:Nat) (cv:Value) (R:List (Value × Nat × List Value)) (cs:List Value),k<=T + 1/\cv=t11/\t46=.int .i64 (k:Int)/\cs.length=k/\(CV.length=i/\StatesOk (deedsS G (iterB G m).nx (cxB G m (E0 G) (F0 G)).C A) (T + 1) R CV/\ColsOk (deedsS G (iterB G m).nx (cxB G m (E0 G) (F0 G)).C A i) R cs)/\Hid (Foot w4.heap.size w4 wr [blkI w4.heap.size (.cells #[.slice ko kl kc,.slice no nl nc] 55 (0,0)),gI w4.heap.size 2 R,gI w4.heap.size 1 (CV.map fun c=>(c.1,c.2.length,c.2)),queI w4.heap.size 1 v i (CV.map (·.1)),blkI b48 (.cells #[.slice io NN ic,.slice ao NN ac] 48 (0,0)),queI w4.heap.size 2 (.slice po PS.length pc2) PS.length (pC PS),queI w4.heap.size 1 cv k cs])) (fun _ t46 _=>T + 1 - (RowKit.intOf t46).toNat)
    case atStart=>exact ⟨0,_,R,[],Nat.zero_le _,rfl,rfl,rfl,⟨HCV.out.1,HCV.out.2,ColsOk.nil _ _⟩,HF⟩
    case round =>
     clear HF
     obtain ⟨k,cv,R,cs,hkT,rfl,rfl,hcs,hst,HF⟩:=hrel
     have HCS:=hid (And.intro hcs hst)
     clear hcs hst HCV
     by_cases hkl:k < T + 1
     ·have k1:(k:Int) < (T:Int) + 1:=by omega
      have k0:(0:Int)<=(k:Int):=by omega
      have HBr:=hid (HB4.out.trans (HF.out.bel.mono HB4.out.size))
      obtain ⟨c0,c1,c2,c3,c4⟩:=HS.out wr (HC4.out.trans (HF.out.bel.mono HC4.out.size))
      have nA:wr.heap[w4.heap.size]?=some (.cells #[.slice ko kl kc,.slice no nl nc] 55 (0,0)):=HF.out.ok 0 _ rfl
      have a0:wr.cell? ⟨w4.heap.size,0,none⟩=some (.slice ko kl kc):=coQ nA 0
      have a1:wr.cell? ⟨w4.heap.size,1,none⟩=some (.slice no nl nc):=coQ nA 1
      have hT60:=(valid_parts HO.out.2).1
      rw [HTL.out] at hT60
      have HLOW:=hid (show ∀ x ∈ ((cxB G m (E0 G) (F0 G)).C i).map (fun x=>A (i,x)),x < 18446744073709551616 from fun x hx=>by
       obtain ⟨y,_,rfl⟩:=List.mem_map.1 hx
       exact HLK.out.1.low _)
      have KDD:=hid (deeds_any (ps:=PS) (HGr.out.below HBr.out) (HAU.out.below HF.out.bel) (NxOk.built HO.out.1) (i:Int) k (by omega) (PassAt.of_own (HF.out.ok 5 _ rfl)) (by rw [<-HPS.out]; exact passed_len _ _ _ (Nat.le_trans (cx_len HO.out.2 m (E0 G) (F0 G) i) (by decide))) (by rw [<-HPS.out]; exact passed_low HLOW.out))
      clear nA
      go_wp2_with fail
      refine KDD.out.mono ?_
      rintro e w7 ⟨dv,rfl,hb7,hdv⟩
      obtain ⟨DD,hDD⟩:=nmQ (deedsX G (iterB G m).nx (i:Int) k PS)
      have HDD:=hid (show deedsS G (iterB G m).nx (cxB G m (E0 G) (F0 G)).C A i k=DD from by unfold deedsS; rw [HPS.out,hDD])
      rw [hDD] at hdv
      obtain ⟨do_,dc,rfl⟩:=hdv.shape
      have HF7:=hid (show Foot w4.heap.size w4 w7 [blkI w4.heap.size (.cells #[.slice ko kl kc,.slice no nl nc] 55 (0,0)),gI w4.heap.size 2 (R ++ [(.slice do_ DD.length dc,DD.length,dC DD)]),gI w4.heap.size 1 (CV.map fun c=>(c.1,c.2.length,c.2)),queI w4.heap.size 1 v i (CV.map (·.1)),blkI b48 (.cells #[.slice io NN ic,.slice ao NN ac] 48 (0,0)),queI w4.heap.size 2 (.slice po PS.length pc2) PS.length (pC PS),queI w4.heap.size 1 cv k cs] from foot_gadd (l:=[]) (k:=1) HF.out rfl hb7 (ownsT_weaken hdv HF.out.bel.size) (fun b hb=>ownsT_range hdv b hb))
      clear c0 c1 c2 c3 c4 a0 a1 KDD hb7 hdv HF hDD
      obtain ⟨co,cc,rfl⟩:=(show ownsT w7 w4.heap.size 1 cv k cs from HF7.out.ok 6 _ rfl).shape
      obtain ⟨wq,eq⟩:=nmQ (w7.alloc (.cells #[.slice do_ DD.length dc] 87))
      have nq:wq.heap[w7.heap.size]?=some (.cells #[.slice do_ DD.length dc] 87 (0,0)):=nbQ eq
      have HFq:=hid (HF7.out.below (show Below w7.heap.size w7 wq by exact baQ eq))
      have HCQ:=hid (show ∀ j u,[Value.slice do_ DD.length dc][j]?=some u->wq.cell? ⟨w7.heap.size,j,none⟩=some u from fun j u hi=>by
       rw [coQ nq,<-hi,<-List.getElem?_toArray])
      have HOQ:=hid (show ∀ q ∈ [Value.slice do_ DD.length dc],q.oneCell'=true from fun q hq=>by rw [List.mem_singleton.1 hq]; rfl)
      have HBq:=hid (show w4.heap.size<=wq.heap.size from Nat.le_trans HFq.out.le HFq.out.bel.size)
      have HOW:=hid (show ownsT wq w4.heap.size 1 (.slice co k cc) k cs from HFq.out.ok 6 _ rfl)
      have hk12:k<=1000000000000:=by
       have h1:=(valid_parts HO.out.2).1
       rw [HTL.out] at h1
       omega
      have HK12:=hid hk12
      clear nq HF7 hk12
      go_wp2_with (refine wpList_push_T rfl (.tmp 49) (.tmp 56) 85 87 rfl (.slice none 0 0) 1 24 Tryz.underlying85 info87 rfl (by decide) (.slice co k cc) k cs rfl HOW.out w7.heap.size rfl [.slice do_ DD.length dc] rfl HCQ.out HOQ.out HK12.out HBq.out ?_)
      intro ao2 c8 w8 hown hg8 hat
      have h8:=HFq.out.push_que 6 rfl hown hg8 hat
      have HF8:=hid (show Foot w4.heap.size w4 w8 [blkI w4.heap.size (.cells #[.slice ko kl kc,.slice no nl nc] 55 (0,0)),gI w4.heap.size 2 (R ++ [(.slice do_ DD.length dc,DD.length,dC DD)]),gI w4.heap.size 1 (CV.map fun c=>(c.1,c.2.length,c.2)),queI w4.heap.size 1 v i (CV.map (·.1)),blkI b48 (.cells #[.slice io NN ic,.slice ao NN ac] 48 (0,0)),queI w4.heap.size 2 (.slice po PS.length pc2) PS.length (pC PS),queI w4.heap.size 1 (.slice ao2 (k + 1) c8) (k + 1) (cs ++ [.slice do_ DD.length dc])] from h8)
      clear h8 hown hg8 hat eq
      have HC9:=hid (show CV.length=i/\StatesOk (deedsS G (iterB G m).nx (cxB G m (E0 G) (F0 G)).C A) (T + 1) (R ++ [(.slice do_ DD.length dc,DD.length,dC DD)]) CV/\ColsOk (deedsS G (iterB G m).nx (cxB G m (E0 G) (F0 G)).C A i) (R ++ [(.slice do_ DD.length dc,DD.length,dC DD)]) (cs ++ [.slice do_ DD.length dc]) from
       ⟨HCS.out.2.1,HCS.out.2.2.1.more,by
        have h1:=HCS.out.2.2.2.push (.slice do_ DD.length dc)
        rw [HCS.out.1,HDD.out] at h1
        exact h1⟩)
      go_wp2_with fail
      refine ⟨⟨k + 1,_,R ++ [(.slice do_ DD.length dc,DD.length,dC DD)],cs ++ [.slice do_ DD.length dc],by omega,rfl,rfl,by rw [List.length_append,HCS.out.1]; rfl,HC9.out,HF8⟩,?_⟩
      show T + 1 - ((k:Int) + 1).toNat < T + 1 - ((k:Int)).toNat
      omega
     ·have k1:¬ (k:Int) < (T:Int) + 1:=by omega
      have HKT:=hid (show k=T + 1 from by omega)
      obtain ⟨vo2,vc2,rfl⟩:=(show ownsT wr w4.heap.size 1 v i _ from HF.out.ok 3 _ rfl).shape
      obtain ⟨co,cc,rfl⟩:=(show ownsT wr w4.heap.size 1 cv k cs from HF.out.ok 6 _ rfl).shape
      obtain ⟨wq,eq⟩:=nmQ (wr.alloc (.cells #[.slice co k cc] 85))
      have nq:wq.heap[wr.heap.size]?=some (.cells #[.slice co k cc] 85 (0,0)):=nbQ eq
      have HFq:=hid (HF.out.below (show Below wr.heap.size wr wq by exact baQ eq))
      have HCQ:=hid (show ∀ j u,[Value.slice co k cc][j]?=some u->wq.cell? ⟨wr.heap.size,j,none⟩=some u from fun j u hi=>by
       rw [coQ nq,<-hi,<-List.getElem?_toArray])
      have HOQ:=hid (show ∀ q ∈ [Value.slice co k cc],q.oneCell'=true from fun q hq=>by rw [List.mem_singleton.1 hq]; rfl)
      have HBq:=hid (show w4.heap.size<=wq.heap.size from Nat.le_trans HFq.out.le HFq.out.bel.size)
      have HOW:=hid (show ownsT wq w4.heap.size 1 (.slice vo2 i vc2) i (CV.map (·.1)) from HFq.out.ok 3 _ rfl)
      have hm5:m<=100000:=(by have h1:=HO.out.1.1.le; have h2:=HO.out.1.inv.2.2; omega)
      have HI12:=hid (show i<=1000000000000 from by omega)
      clear nq HF
      go_wp2_with (refine wpList_push_T rfl (.tmp 59) (.tmp 61) 78 85 rfl (.slice none 0 0) 1 24 Tryz.underlying78 info85 rfl (by decide) (.slice vo2 i vc2) i (CV.map (·.1)) rfl HOW.out wr.heap.size rfl [.slice co k cc] rfl HCQ.out HOQ.out HI12.out HBq.out ?_)
      intro ao2 c8 w8 hown hg8 hat
      have h8:=HFq.out.push_que 3 rfl hown hg8 hat
      have h9:=foot_gmove (l:=[blkI w4.heap.size (.cells #[.slice ko kl kc,.slice no nl nc] 55 (0,0)),gI w4.heap.size 2 R,queI w4.heap.size 1 (.slice ao2 (i + 1) c8) (i + 1) (CV.map (·.1) ++ [.slice co k cc])]) (h8.pick [blkI w4.heap.size (.cells #[.slice ko kl kc,.slice no nl nc] 55 (0,0)),gI w4.heap.size 2 R,queI w4.heap.size 1 (.slice ao2 (i + 1) c8) (i + 1) (CV.map (·.1) ++ [.slice co k cc]),queI w4.heap.size 1 (.slice co k cc) k cs,gI w4.heap.size 1 (CV.map fun c=>(c.1,c.2.length,c.2))] (fun q=>[0,1,3,6,2].getD q 0) (fun q x hx=>by
       match q,hx with
       | 0,hx=>exact hx
       | 1,hx=>exact hx
       | 2,hx=>exact hx
       | 3,hx=>exact hx
       | 4,hx=>exact hx
       | q + 5,hx=>simp at hx) (fun a b ha hb he=>pick5 a ha b hb he))
      have h10:=h9.pick [blkI w4.heap.size (.cells #[.slice ko kl kc,.slice no nl nc] 55 (0,0)),gI w4.heap.size 2 R,gI w4.heap.size 1 ((CV.map fun c=>(c.1,c.2.length,c.2)) ++ [(.slice co k cc,k,cs)]),queI w4.heap.size 1 (.slice ao2 (i + 1) c8) (i + 1) (CV.map (·.1) ++ [.slice co k cc])] (fun q=>[0,1,3,2].getD q 0) (fun q x hx=>by
       match q,hx with
       | 0,hx=>exact hx
       | 1,hx=>exact hx
       | 2,hx=>exact hx
       | 3,hx=>exact hx
       | q + 4,hx=>simp at hx) (fun a b ha hb he=>pick4 a ha b hb he)
      have HF8:=hid (show Foot w4.heap.size w4 w8 [blkI w4.heap.size (.cells #[.slice ko kl kc,.slice no nl nc] 55 (0,0)),gI w4.heap.size 2 R,gI w4.heap.size 1 ((CV ++ [(Value.slice co k cc,cs)]).map fun c=>(c.1,c.2.length,c.2)),queI w4.heap.size 1 (.slice ao2 (i + 1) c8) (i + 1) ((CV ++ [(Value.slice co k cc,cs)]).map (·.1))] from by rw [List.map_append,List.map_append,List.map_cons,List.map_cons,List.map_nil,List.map_nil,HCS.out.1]; exact h10)
      clear h8 h9 h10 hown hg8 hat eq
      have HC9:=hid (show (CV ++ [(Value.slice co k cc,cs)]).length=i + 1/\StatesOk (deedsS G (iterB G m).nx (cxB G m (E0 G) (F0 G)).C A) (T + 1) R (CV ++ [(Value.slice co k cc,cs)]) from
       ⟨by rw [List.length_append,HCS.out.2.1]; rfl,HCS.out.2.2.1.push (HCS.out.1.trans HKT.out) (by rw [HCS.out.2.1]; exact HCS.out.2.2.2)⟩)
      go_wp2_with fail
      refine ⟨⟨i + 1,_,R,CV ++ [(.slice co k cc,cs)],by omega,rfl,rfl,HC9.out.1,HC9.out.2,HF8⟩,?_⟩
      show m - ((i:Int) + 1).toNat < m - ((i:Int)).toNat
      omega
   ·have j1:¬ (i:Int) < (m:Int):=by omega
    obtain rfl:i=m:=by omega
    have HFIN:=hid HF.out
    clear HF
    go_wp2_with fail
    refine bodyPost_ret (results_tmp2 rfl _ _ _) rfl ?_
    refine ⟨HB4.out.trans (HFIN.out.bel.mono HB4.out.size),.inr ⟨HVB.out,i,.inr ⟨HO.out.1,_,A,rfl,HLK.out.1,?_⟩⟩⟩
    rw [HTL.out]
    exact states_rows (HFIN.out.ok 1 _ rfl) (HFIN.out.ok 2 _ rfl) (HFIN.out.ok 3 _ rfl) HCV.out.1 HCV.out.2
end Go.Proofs.YticmnfmijdgmbaaGreatDoor

namespace Go.Proofs.YticmnfmijdgmbaaGreatDoor
open Go Go.RowKit Go.Lib
open X14 (It)
open S13 (u64 bitN)
open S16
theorem info91b:(Tryz.prog.info? 91).map (fun i=>(i.zero,i.size,i.bytes))=some (some (.agg #[.int .i64 0,.int .i64 0]),2,16):=by kernel_rfl
def itP (x:It):Value × Value:=(.int .i64 x.1,.int .i64 x.2)
theorem dC_rcells (l:List It):dC l=rcells (l.map itP):=by
 unfold dC rcells
 induction l with
 | nil=>rfl
 | cons x l ih=>rw [List.flatMap_cons,List.map_cons,List.flatMap_cons,ih]; rfl
theorem made_deeds (n:Nat) (hn:n<=1000000) (w:World):(Instr.makeSlice 87 (.int .i64 (n:Int)) (.int .i64 (n:Int))).run Tryz.prog w=.ok (.slice (some ⟨w.heap.size,0,none⟩) n n) (w.alloc (.cells (rcells ((List.replicate n ((0,0):It)).map itP)).toArray 91)):=by
 obtain ⟨i0,hi,hz0,hz1,hz2⟩:=info_parts info91b
 have:=run_makeSlice (P:=Tryz.prog) (w:=w) 87 91 i0 (.agg #[.int .i64 0,.int .i64 0]) Tryz.underlying87 hi hz0 .i64 .i64 (n:Int) (n:Int) (by omega) (by omega) (by rw [hz1]; omega) (by rw [hz2]; omega) (by omega)
 rw [this,hz1]
 have hl:∀ n,(rcells ((List.replicate n ((0,0):It)).map itP))=List.replicate (n * 2) (.int .i64 0):=fun n=>by
  induction n with
  | zero=>rfl
  | succ n ih=>rw [List.replicate_succ,List.map_cons,rcells_cons,ih,show (n + 1) * 2=n * 2 + 1 + 1 by omega,List.replicate_succ,List.replicate_succ]; rfl
 have e:madeCells (Value.agg #[.int .i64 0,.int .i64 0]).cells ((n:Int).toNat * 2)=(rcells ((List.replicate n ((0,0):It)).map itP)).toArray:=by
  rw [hl,Int.toNat_natCast]
  refine Array.ext (by simp [madeCells]) fun i h1 h2=>?_
  simp [madeCells,Value.cells]
  rcases (show i % 2=0\/i % 2=1 by omega) with h3 | h3 <;> simp [h3]
 rw [e,Int.toNat_natCast]
def onlyX (D:Nat->List It) (m j:Nat):List It:=(List.range m).map fun k=>if k < j then (D k).headD (0,0) else (0,0)
theorem onlyX_len (D:Nat->List It) (m j:Nat):(onlyX D m j).length=m:=by unfold onlyX; simp
theorem onlyX_get {D:Nat->List It} {m j k:Nat} (h:k < m):(onlyX D m j)[k]?=some (if k < j then (D k).headD (0,0) else (0,0)):=by
 unfold onlyX
 rw [List.getElem?_map,List.getElem?_range h]
 rfl
theorem onlyX_zero (D:Nat->List It) (m:Nat):onlyX D m 0=List.replicate m (0,0):=by
 refine List.ext_getElem? fun k=>?_
 by_cases h:k < m
 ·rw [onlyX_get h,List.getElem?_replicate,if_pos h]; rfl
 ·rw [List.getElem?_eq_none (by rw [onlyX_len]; omega),List.getElem?_eq_none (by rw [List.length_replicate]; omega)]
theorem onlyX_more {D:Nat->List It} {m j:Nat} (h:j < m):onlyX D m (j + 1)=(onlyX D m j).set j ((D j).headD (0,0)):=by
 refine List.ext_getElem? fun k=>?_
 rw [List.getElem?_set,onlyX_len]
 by_cases hk:k < m
 ·rw [onlyX_get hk,onlyX_get hk]
  by_cases e:j=k
  ·subst e; rw [if_pos rfl,if_pos h,if_pos (by omega)]
  ·rw [if_neg e]
   congr 1
   by_cases hj:k < j
   ·rw [if_pos hj,if_pos (by omega)]
   ·rw [if_neg hj,if_neg (by omega)]
 ·rw [List.getElem?_eq_none (by rw [onlyX_len]; omega),List.getElem?_eq_none (by rw [onlyX_len]; omega),if_neg (by omega)]
theorem onlyX_skip {D:Nat->List It} {m j:Nat} (h:D j=[]):onlyX D m (j + 1)=onlyX D m j:=by
 unfold onlyX
 refine List.map_congr_left fun k _=>?_
 by_cases e:k=j
 ·subst e; rw [if_pos (by omega),if_neg (by omega),h]; rfl
 ·by_cases hj:k < j
  ·rw [if_pos hj,if_pos (by omega)]
  ·rw [if_neg hj,if_neg (by omega)]
def mayX (D:Nat->List It) (m:Nat):Nat->Nat
 | 0=>0
 | j + 1=>if D j=[] then mayX D m j else mayX D m j ||| bitN (if j + 1=m then 63 else (j:Int))
theorem bitN_lt (z:Int):bitN z < 18446744073709551616:=by
 unfold bitN
 split
 ·have h:z.toNat < 64:=by omega
  exact Nat.pow_lt_pow_right (by decide) h
 ·decide
theorem mayX_lt (D:Nat->List It) (m:Nat):∀ j,mayX D m j < 18446744073709551616
 | 0=>by unfold mayX; decide
 | j + 1=>by
  have:=mayX_lt D m j
  unfold mayX
  split
  ·exact this
  ·exact S13.or_lt this (bitN_lt _)
def OnlyP (D:Nat->List It) (m:Nat) (w:World) (e:Ending) (w':World):Prop:=
 ∃ v,e=.returned (.tuple #[v,u64 (mayX D m m)])/\Below w.heap.size w w'/\ownsT w' w.heap.size 2 v m (dC (onlyX D m m))
theorem own_made {w:World} {B b m:Nat} {l:List It} (hB:B<=b) (hl:l.length=m) (hm:m<=1000) (h:w.heap[b]?=some (.cells (rcells (l.map itP)).toArray 91 (0,0))):ownsT w B 2 (.slice (some ⟨b,0,none⟩) m m) m (dC l):=by
 refine ⟨by rw [dC_length,hl],.inr ⟨b,0,m,rfl,hB,(ltQ h),Nat.le_refl _,by unfold maxLen; omega,fun j u hj=>?_,fun j hj=>⟨?_,?_⟩⟩⟩
 ·rw [Nat.zero_add,coQ h j,List.getElem?_toArray,<-dC_rcells]; exact hj
 ·rw [Nat.zero_add,coQ h j,List.getElem?_toArray,<-dC_rcells,geQ (by rw [dC_length,hl]; exact hj)]; rfl
 ·exact foQ h _
set_option maxRecDepth 100000 in
set_option maxHeartbeats 8000000 in
theorem only_any {v:Value} {w:World} {m:Nat} {D:Nat->List It} (h:RowsAt w v m (fun k u=>ItemsAt w u (D k))) (h0:0 < m) (hm:m<=61) :
  Calls Tryz.prog 80 #[v] w (OnlyP D m w):=by
 have HV:=hid h
 obtain ⟨vo,vc,rfl,_⟩:=h.len
 obtain ⟨W1,e1⟩:=nmQ (w.alloc (.cells (rcells ((List.replicate m ((0,0):It)).map itP)).toArray 91))
 have hmk:=made_deeds m (by omega) w
 rw [e1] at hmk
 have n1:W1.heap[w.heap.size]?=some (.cells (rcells ((List.replicate m ((0,0):It)).map itP)).toArray 91 (0,0)):=nbQ e1
 have HF:=hid (show Foot w.heap.size w W1 [blkI w.heap.size (.cells (rcells ((onlyX D m 0).map itP)).toArray 91 (0,0))] from by rw [onlyX_zero]; exact foot_add1 (l:=[]) (Foot.empty w w.heap.size (Nat.le_refl _)) e1 n1)
 clear h n1
 go_enter Tryz.func80,Tryz.ntmps80
 go_wp2_with fail
 clear hmk e1
 go_loopw [4,13] (fun t4 t13 wr=>∃ (i mv:Nat),i<=m/\t4=u64 mv/\t13=.int .i64 (i:Int)/\Hid (mv=mayX D m i)/\Hid (Foot w.heap.size w wr [blkI w.heap.size (.cells (rcells ((onlyX D m i).map itP)).toArray 91 (0,0))])) (fun _ t13 _=>m - (RowKit.intOf t13).toNat)
 case atStart=>exact ⟨0,0,Nat.zero_le _,rfl,rfl,hid rfl,HF⟩
 case round =>
  clear HF
  obtain ⟨i,mv,hiN,rfl,rfl,HM,HF⟩:=hrel
  by_cases hlt:i < m
  ·have j1:(i:Int) < (m:Int):=by omega
   have j0:(0:Int)<=(i:Int):=by omega
   obtain ⟨b,off,u,rfl,u1,u2⟩:=HV.out.at_ hlt
   obtain ⟨uo,uc,rfl,_⟩:=u2.len
   have r0:=cell_below HF.out.bel u1
   have HU:=hid (ItemsAt.below u2 HF.out.bel)
   obtain ⟨NN,hNN⟩:=nmQ ((D i).length)
   rw [hNN] at r0 HU
   have HNN:=hid hNN
   clear u1 u2 hNN
   by_cases hz:NN=0
   ·have z0:((NN:Int) == 0)=true:=by rw [hz]; rfl
    have z1:(NN == 0)=true:=by rw [hz]; rfl
    have hDi:D i=[]:=List.eq_nil_of_length_eq_zero (by rw [HNN.out]; exact hz)
    have HF8:=hid (show Foot w.heap.size w wr [blkI w.heap.size (.cells (rcells ((onlyX D m (i + 1)).map itP)).toArray 91 (0,0))] from by rw [onlyX_skip hDi]; exact HF.out)
    have HM8:=hid (show mv=mayX D m (i + 1) from by rw [HM.out]; unfold mayX; rw [if_pos hDi]; cases i <;> rfl)
    clear HF hDi hz
    go_wp2_with fail
    refine ⟨⟨i + 1,mv,by omega,rfl,rfl,HM8,HF8⟩,?_⟩
    show m - ((i:Int) + 1).toNat < m - ((i:Int)).toNat
    omega
   ·have z0:((NN:Int) == 0)=false:=by rw [beq_eq_false_iff_ne]; omega
    have z1:(NN == 0)=false:=by rw [beq_eq_false_iff_ne]; exact hz
    have zp:0 < NN:=by omega
    have zq:(0:Int) < (NN:Int):=by omega
    obtain ⟨x,xs,hDi⟩:∃ x xs,D i=x :: xs:=by
     cases hd:D i with
     | nil=>rw [hd] at HNN; exact absurd HNN.out.symm hz
     | cons x xs=>exact ⟨x,xs,rfl⟩
    have HDI:=hid hDi
    obtain ⟨b2,off2,rfl,y0,y1⟩:=(show ItemsAt wr (.slice uo NN uc) (D i) from HU.out).at_ (k:=0) (x:=x) (by rw [hDi]; rfl)
    rw [Nat.zero_mul,Nat.add_zero] at y0 y1
    obtain ⟨L,hL⟩:=nmQ (onlyX D m i)
    rw [hL] at HF
    have HLL:=hid hL
    have hLl:L.length=m:=by rw [<-hL]; exact onlyX_len _ _ _
    have hLi:(L.map itP)[i]?=some (itP (0,0)):=by rw [List.getElem?_map,<-hL,onlyX_get hlt,if_neg (by omega)]; rfl
    have n0:wr.heap[w.heap.size]?=some (.cells (rcells (L.map itP)).toArray 91 (0,0)):=HF.out.ok 0 _ rfl
    have c0:wr.cell? ⟨w.heap.size,i * 2,none⟩=some (.int .i64 0):=by rw [coQ n0,List.getElem?_toArray]; exact (rcells_get hLi).1
    have f0:=foQ n0 (i * 2)
    obtain ⟨v1,ve1⟩:=nmQ (wr.setCell ⟨w.heap.size,i * 2,none⟩ (.int .i64 x.1))
    have q1:=foot_set (l:=[]) (k:=0) (i:=i * 2) (v:=.int .i64 x.1) HF.out rfl
    rw [ve1] at q1
    have n2:=foot_at (l:=[]) (k:=0) q1 rfl
    rw [List.setIfInBounds_toArray,rcells_set0 _ hLi] at n2
    have c1:v1.cell? ⟨w.heap.size,i * 2 + 1,none⟩=some (.int .i64 0):=by
     rw [coQ n2,List.getElem?_toArray]
     exact (rcells_get (l:=(L.map itP).set i (.int .i64 x.1,(itP (0,0)).2)) (i:=i) (p:=(.int .i64 x.1,.int .i64 0)) (by rw [List.getElem?_set_self (List.getElem?_eq_some_iff.1 hLi).1]; rfl)).2
    have f1:=foQ n2 (i * 2 + 1)
    obtain ⟨v2,ve2⟩:=nmQ (v1.setCell ⟨w.heap.size,i * 2 + 1,none⟩ (.int .i64 x.2))
    have q2:=foot_set (l:=[]) (k:=0) (i:=i * 2 + 1) (v:=.int .i64 x.2) q1 rfl
    rw [ve2] at q2
    have HF8:=hid (show Foot w.heap.size w v2 [blkI w.heap.size (.cells (rcells ((onlyX D m (i + 1)).map itP)).toArray 91 (0,0))] from by
     rw [onlyX_more hlt,HLL.out,HDI.out]
     have e0:(rcells (L.map itP)).toArray.setIfInBounds (i * 2) (.int .i64 x.1)=(rcells ((L.map itP).set i (.int .i64 x.1,(itP (0,0)).2))).toArray:=by rw [List.setIfInBounds_toArray,rcells_set0 _ hLi]
     have e1:(rcells ((L.map itP).set i (.int .i64 x.1,(itP (0,0)).2))).toArray.setIfInBounds (i * 2 + 1) (.int .i64 x.2)=(rcells (((L.map itP).set i (.int .i64 x.1,(itP (0,0)).2)).set i (.int .i64 x.1,.int .i64 x.2))).toArray:=by
      rw [List.setIfInBounds_toArray,rcells_set1 (p:=(.int .i64 x.1,(itP (0,0)).2)) _ (by rw [List.getElem?_set_self (List.getElem?_eq_some_iff.1 hLi).1])]
     have e:((rcells (L.map itP)).toArray.setIfInBounds (i * 2) (.int .i64 x.1)).setIfInBounds (i * 2 + 1) (.int .i64 x.2)=(rcells ((L.set i x).map itP)).toArray:=by
      rw [e0,e1,List.set_set,List.map_set]
      rfl
     show Foot w.heap.size w v2 [blkI w.heap.size (.cells (rcells ((L.set i x).map itP)).toArray 91 (0,0))]
     rw [<-e]
     exact q2)
    have KW:∀ z,Hid (Calls Tryz.prog 39 #[u64 mv,.int .i64 z] v2 fun e w'=>e=.returned (u64 (mv ||| bitN z))/\v2=w'):=fun z=>hid (S13.With_any mv z (by rw [HM.out]; exact mayX_lt _ _ _) v2)
    have HM8:=hid (show mv ||| bitN (if i + 1=m then 63 else (i:Int))=mayX D m (i + 1) from by
     rw [HM.out]
     show _=(if D i=[] then mayX D m i else mayX D m i ||| bitN (if i + 1=m then 63 else (i:Int)))
     rw [if_neg (show ¬ D i=[] by rw [HDI.out]; simp)])
    clear HF q1 q2 n0 n2 hL hLi hDi
    by_cases hlast:i + 1=m
    ·have d0:((i:Int) == (m:Int) - 1)=true:=by rw [beq_iff_eq]; omega
     have KW1:=KW 63
     rw [if_pos hlast] at HM8
     have HLAST:=hid hlast
     clear KW hlast
     go_wp2_with fail
     refine KW1.out.mono ?_
     rintro e w9 ⟨rfl,rfl⟩
     go_wp2_with fail
     refine ⟨⟨i + 1,_,by omega,rfl,rfl,HM8,HF8⟩,?_⟩
     show m - ((i:Int) + 1).toNat < m - ((i:Int)).toNat
     omega
    ·have d0:((i:Int) == (m:Int) - 1)=false:=by rw [beq_eq_false_iff_ne]; omega
     have KW1:=KW (i:Int)
     rw [if_neg hlast] at HM8
     clear KW hlast
     go_wp2_with fail
     refine KW1.out.mono ?_
     rintro e w9 ⟨rfl,rfl⟩
     go_wp2_with fail
     refine ⟨⟨i + 1,_,by omega,rfl,rfl,HM8,HF8⟩,?_⟩
     show m - ((i:Int) + 1).toNat < m - ((i:Int)).toNat
     omega
  ·have j1:¬ (i:Int) < (m:Int):=by omega
   obtain rfl:i=m:=by omega
   have HOW:=hid (own_made (Nat.le_refl _) (onlyX_len _ _ _) (by omega) (show wr.heap[w.heap.size]?=_ from HF.out.ok 0 _ rfl))
   have HBE:=hid HF.out.bel
   clear HF
   go_wp2_with fail
   refine bodyPost_ret (results_tmp2 rfl _ _ _) rfl ?_
   unfold OnlyP
   rw [<-HM.out]
   exact ⟨_,rfl,HBE.out,HOW.out⟩
end Go.Proofs.YticmnfmijdgmbaaGreatDoor
