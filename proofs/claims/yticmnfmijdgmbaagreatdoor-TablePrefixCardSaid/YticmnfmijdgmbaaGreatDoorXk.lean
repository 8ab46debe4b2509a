/- rows: the walk. -/
import Derived.Test.YticmnfmijdgmbaaGreatDoorGa
import Derived.Test.YticmnfmijdgmbaaGreatDoorXj
set_option linter.unusedVariables false
set_option linter.unusedSimpArgs false
namespace Go.Proofs.YticmnfmijdgmbaaGreatDoor
open Go Go.RowKit Go.Lib
open X14 (It iterB BuiltOk closeX)
open S13 (u64 comX Com bitN top E0 F0 Sub)
open S13.X15 (Pl WQ WS LeastA askX places cxB updA miss CxOk)
theorem RowsAt.cells {w:World} {v:Value} {n:Nat} {p:Nat->Value->Prop} (h:RowsAt w v n p):∃ o c,v=.slice o n c/\(0 < n->∃ b off,o=some ⟨b,off,none⟩/\∀ i,i < n->∃ u,w.cell? ⟨b,off + i,none⟩=some u/\p i u):=by
 obtain ⟨o,c,e,h1,h2⟩:=h
 exact ⟨o,c,e,fun h0=>by
  obtain ⟨b,off,h3,h4⟩:=h2 h0
  exact ⟨b,off,h3,h4⟩⟩
set_option maxRecDepth 100000 in
set_option maxHeartbeats 16000000 in
theorem rows_any {W:World} {G:GD} {tv ov sv pv kv nv:Value} {n:Nat} (hG:Gram W (.agg #[tv,ov,sv,pv,.int .i64 G.start]) G) (hA:AutAt W (.agg #[kv,nv]) (iterB G n).ker (iterB G n).nx) (hb:BuiltOk G n) (hV:validB G=true) :
  Calls Tryz.prog 45 #[.agg #[tv,ov,sv,pv,.int .i64 G.start],.agg #[kv,nv]] W (RowsP W G n):=by
 have HGr:=hid hG
 have HAu:=hid hA
 have HB:=hid hb
 have HV:=hid hV
 have hn2:n<=2000:=by have:=hb.1.le; have:=hb.inv.2.2; omega
 have hn0:0 < n:=S13.X15.n_pos hb
 obtain ⟨ko,kc,rfl,bk,offk,rfl,HK⟩:∃ ko kc,kv=.slice ko n kc/\∃ bk offk,ko=some ⟨bk,offk,none⟩/\Hid (∀ i,i < n->∃ u,W.cell? ⟨bk,offk + i,none⟩=some u/\ItemsAt W u ((iterB G n).ker.getD i [])):=by
  obtain ⟨kv',nv',e,h1,_⟩:=hA
  injection e with e
  injection e with e
  injection e with e _
  subst e
  rw [hb.inv.2.2] at h1
  obtain ⟨o,c,rfl,h2⟩:=h1.cells
  obtain ⟨b,off,rfl,h3⟩:=h2 hn0
  exact ⟨_,c,rfl,b,off,rfl,hid h3⟩
 obtain ⟨gk,hgk⟩:=nmQ (#[tv,ov,sv,pv,Value.int .i64 G.start])
 obtain ⟨gc,hgc⟩:=nmQ ([tv,ov,sv,pv,Value.int .i64 G.start,Value.slice (some ⟨bk,offk,none⟩) n kc,nv])
 have hgl:gc.length=7:=by rw [<-hgc]; rfl
 have HGC:=hid hgc
 have HGK:=hid hgk
 obtain ⟨W1,e1⟩:=nmQ (W.alloc (.cells #[tv,ov,sv,pv,.int .i64 G.start] 27))
 have n1:W1.heap[W.heap.size]?=some (.cells #[tv,ov,sv,pv,.int .i64 G.start] 27 (0,0)):=nbQ e1
 have h1:Below W.heap.size W W1:=baQ e1
 obtain ⟨W2,e2⟩:=nmQ (W1.alloc (.cells #[.slice (some ⟨bk,offk,none⟩) n kc,nv] 55))
 have n2:W2.heap[W1.heap.size]?=some (.cells #[.slice (some ⟨bk,offk,none⟩) n kc,nv] 55 (0,0)):=nbQ e2
 have h2:Below W1.heap.size W1 W2:=baQ e2
 obtain ⟨W3,e3⟩:=nmQ (W2.alloc (.map #[] 0))
 have n3:MapIs Tryz.prog 158 W3 W2.heap.size []:=by rw [<-e3]; exact MapIs.made W2
 have h3:Below W2.heap.size W2 W3:=baQ e3
 obtain ⟨W4,e4⟩:=nmQ (W3.alloc (.map #[] 0))
 have n4:MapIs Tryz.prog 60 W4 W3.heap.size []:=by rw [<-e4]; exact MapIs.made W3
 have h4:Below W3.heap.size W3 W4:=baQ e4
 obtain ⟨W5,e5⟩:=nmQ (W4.alloc (.cells #[tv,ov,sv,pv,.int .i64 G.start,.slice (some ⟨bk,offk,none⟩) n kc,nv,.map (some W2.heap.size),.map (some W3.heap.size),.slice none 0 0] 156))
 have n5:W5.heap[W4.heap.size]?=some (.cells (gc ++ [Value.map (some W2.heap.size),Value.map (some W3.heap.size),Value.slice none 0 0]).toArray 156 (0,0)):=by rw [<-e5,<-hgc]; exact new_block _ _
 have h5:Below W4.heap.size W4 W5:=baQ e5
 obtain ⟨W6,e6⟩:=nmQ (W5.alloc (.cells (rcells (List.replicate n (Value.slice none 0 0,Value.slice none 0 0))).toArray 48))
 have n6:W6.heap[W5.heap.size]?=some (.cells (rcells (List.replicate n (Value.slice none 0 0,Value.slice none 0 0))).toArray 48 (0,0)):=nbQ e6
 have h6:Below W5.heap.size W5 W6:=baQ e6
 have hms:=made_rows n (by omega) W5
 rw [e6] at hms
 have HF:=hid (rows_start (G:=G) (gc:=gc) (gk:=gk) (by rw [<-hgk]; exact n1) h1 rfl n2 h2 rfl n3 h3 rfl n4 h4 rfl n5 h5 rfl n6 h6)
 have a0:=coQ n1 0
 have a1:=coQ n1 1
 have n1':=(h2.block _ (ltQ n1)).trans n1
 have b0:W2.cell? ⟨W.heap.size,0,none⟩=some tv:=coQ n1' 0
 have b1:W2.cell? ⟨W.heap.size,1,none⟩=some ov:=coQ n1' 1
 have b2:W2.cell? ⟨W.heap.size,2,none⟩=some sv:=coQ n1' 2
 have b3:W2.cell? ⟨W.heap.size,3,none⟩=some pv:=coQ n1' 3
 have b4:W2.cell? ⟨W.heap.size,4,none⟩=some (.int .i64 G.start):=coQ n1' 4
 have b5:W2.cell? ⟨W1.heap.size,0,none⟩=some (.slice (some ⟨bk,offk,none⟩) n kc):=coQ n2 0
 have b6:W2.cell? ⟨W1.heap.size,1,none⟩=some nv:=coQ n2 1
 have d5:W5.cell? ⟨W1.heap.size,0,none⟩=some (.slice (some ⟨bk,offk,none⟩) n kc):=by
  have hx:=((h3.trans (h4.mono h3.size)).trans (h5.mono (Nat.le_trans h3.size h4.size)))
  exact coQ ((hx.block _ (ltQ n2)).trans n2) 0
 have d6:W6.cell? ⟨W1.heap.size,0,none⟩=some (.slice (some ⟨bk,offk,none⟩) n kc):=coQ (rr_bT HF.out) 0
 have hmm:=@run_makeMap Tryz.prog
 clear hG hA hb hV n1 n2 n3 n4 n5 n6 h1 h2 h3 h4 h5 h6 n1' a0 a1 hgk hgc
 go_enter Tryz.func45,Tryz.ntmps45
 go_wp2_with fail
 clear b0 b1 b2 b3 b4 b5 b6 d5 d6 e1 e2 e3 e4 e5 e6 hms hmm
 obtain ⟨cx,hcx⟩:=nmQ (cxB G n (E0 G) (F0 G))
 have HCX:=hid hcx
 have HCL:=hid (show ∀ i,(cx.C i).length<=1573 from fun i=>by rw [<-hcx]; exact cx_len HV.out n _ _ i)
 have HCC:=hid (show ∀ i,closeX G ((iterB G n).ker.getD i [])=cx.C i from fun i=>by rw [<-hcx]; rfl)
 have HPN:=hid (show ∀ j,j<=n->(places cx j).length<=3146000 from fun j hj=>Nat.le_trans (places_len HCL.out j) (Nat.le_trans (Nat.mul_le_mul_right _ (Nat.le_trans hj hn2)) (by decide)))
 have HR1:=hid (Row1.start cx.C n)
 generalize List.replicate n (Value.slice none 0 0,Value.slice none 0 0)=l0 at *
 generalize W1.heap.size=bT at *
 generalize W2.heap.size=bA at *
 generalize W3.heap.size=bC at *
 generalize W4.heap.size=bS at *
 generalize W5.heap.size=bl at *
 obtain ⟨kv,hkv⟩:=nmQ (Value.slice (some ⟨bk,offk,none⟩) n kc)
 have HKV:=hid hkv
 rw [hkv] at HF
 clear hkv hcx
 go_loopw [7,8,10,28,46] (fun t7 t8 t10 t28 t46 wr=>∃ (j:Nat) (qv:Value) (F:List (Nat × List It)) (l:List (Value × Value)),j<=n/\t28=.int .i64 (j:Int)/\Hid (Foot W.heap.size W wr (spItems W.heap.size bS bA bC G gc [] [] qv (places cx j) (rowsR W.heap.size W.heap.size bT bl gk kv nv l F [])))/\Hid (Row1 cx.C n j F l)) (fun _ _ _ t28 _ _=>n - (RowKit.intOf t28).toNat)
 case atStart=>exact ⟨0,_,_,_,Nat.zero_le _,rfl,HF,HR1⟩
 case round =>
  clear HF HR1
  obtain ⟨j,qv,F,l,hjn,rfl,HF,HR1⟩:=hrel
  by_cases hlj:j < n
  ·have j1:(j:Int) < (n:Int):=by omega
   have j0:(0:Int)<=(j:Int):=by omega
   have HRJ:=hid (HR1.out.more j (Nat.le_refl _) hlj)
   obtain ⟨u,hu,hui⟩:=HK.out j hlj
   have cu:wr.cell? ⟨bk,offk + j,none⟩=some u:=cell_below HF.out.bel hu
   have nG:=rr_bG HF.out
   rw [<-HGK.out] at nG
   obtain ⟨b0,b1,b2,b3,b4⟩:=cells5 nG
   have hkl:((iterB G n).ker.getD j []).length<=100000:=by
    refine Nat.le_trans (X14.iter_len HV.out n _ ?_) (by decide)
    rw [gdQ,geQ (by rw [HB.out.inv.2.2]; exact hlj)]
    exact List.getElem_mem _
   have KC:=hid (Close_own (HGr.out.below HF.out.bel) HV.out (hui.below HF.out.bel) hkl)
   clear hu hui hkl nG
   go_wp2_with fail
   refine KC.out.mono ?_
   rintro e w2 ⟨g,c,rfl,hrow,hg1,hg2,hb2⟩
   rw [HCC.out] at hrow ⊢
   have HRW:=hid hrow
   have HF2:=hid (rr_froz HF.out hb2 hrow hg1 hg2)
   have p0:w2.cell? ⟨bl,j * 2,none⟩=some (.slice none 0 0):=rr_c0 HF2.out HRJ.out
   have p1:=foQ (rr_bl HF2.out) (j * 2)
   obtain ⟨w3,e3⟩:=nmQ (w2.setCell ⟨bl,j * 2,none⟩ (.slice (some ⟨g,0,none⟩) (cx.C j).length c))
   have hF3:=rr_set0 HF2.out HRJ.out (.slice (some ⟨g,0,none⟩) (cx.C j).length c)
   rw [e3] at hF3
   have HF3:=hid hF3
   have HR3:=hid (HR1.out.put hlj g c)
   obtain ⟨l3,hl3⟩:=nmQ (l.set j (.slice (some ⟨g,0,none⟩) (cx.C j).length c,.slice none 0 0))
   rw [hl3] at HF3 HR3
   obtain ⟨F3,hF3⟩:=nmQ (F ++ [(g,cx.C j)])
   rw [hF3] at HF3 HR3
   have HGF:=hid (show (g,cx.C j) ∈ F3 from by rw [<-hF3]; simp)
   have q0:w3.cell? ⟨bl,j * 2,none⟩=some (.slice (some ⟨g,0,none⟩) (cx.C j).length c):=by
    have:=rr_c0 HF3.out (i:=j) (p:=(.slice (some ⟨g,0,none⟩) (cx.C j).length c,.slice none 0 0)) (by rw [<-hl3]; exact List.getElem?_set_self (by rw [HR1.out.len]; exact hlj))
    exact this
   clear hrow hg1 hg2 hb2 KC b0 b1 b2 b3 b4 hF3
   go_wp2_with fail
   have HS0:=hid (show Foot W.heap.size W w3 (spItems W.heap.size bS bA bC G gc [] [] qv (places cx j ++ ((cx.C j).take 0).map fun x=>(j,x)) (rowsR W.heap.size W.heap.size bT bl gk kv nv l3 F3 [])) from by
    rw [List.take_zero,List.map_nil,List.append_nil]
    exact HF3.out)
   clear HF HF2 HF3 HR1 HRJ p0 p1 q0 e3 cu
   have HLC:=hid (HCL.out j)
   obtain ⟨N,hN⟩:=nmQ ((cx.C j).length)
   rw [hN]
   have HNN:=hid hN
   have hN2:N<=1573:=by rw [<-hN]; exact HLC.out
   clear hN
   go_loopw [10,46] (fun t10 t46 wr=>∃ (m:Nat) (qv:Value),m<=N/\t46=.int .i64 (m:Int)/\Hid (Foot W.heap.size W wr (spItems W.heap.size bS bA bC G gc [] [] qv (places cx j ++ ((cx.C j).take m).map fun x=>(j,x)) (rowsR W.heap.size W.heap.size bT bl gk kv nv l3 F3 [])))) (fun _ t46 _=>N - (RowKit.intOf t46).toNat)
   case atStart=>exact ⟨0,_,Nat.zero_le _,rfl,HS0⟩
   case round =>
    clear HS0
    obtain ⟨m,qv,hmN,rfl,HF⟩:=hrel
    by_cases hlm:m < N
    ·have m1:(m:Int) < (N:Int):=by omega
     have m0:(0:Int)<=(m:Int):=by omega
     obtain ⟨x,hx⟩:∃ x,(cx.C j)[m]?=some x:=⟨_,geQ (by rw [HNN.out]; exact hlm)⟩
     have hrow:=rr_fz HF.out (g,cx.C j) HGF.out m (by rw [HNN.out]; exact hlm)
     rw [(List.getElem?_eq_some_iff.1 hx).2] at hrow
     obtain ⟨r0,r1,_,_⟩:=hrow
     obtain ⟨wa,ea⟩:=nmQ (wr.alloc (.cells #[.int .i64 0,.int .i64 0] 60))
     have na:wa.heap[wr.heap.size]?=some (.cells #[.int .i64 0,.int .i64 0] 60 (0,0)):=nbQ ea
     have hfa:=foot_add1 HF.out ea na
     have vn0:wa.heap[wr.heap.size]?=some (.cells #[.int .i64 0,.int .i64 0] 60 (0,0)):=na
     have vc0:wa.cell? ⟨wr.heap.size,0,none⟩=some (.int .i64 0):=coQ vn0 0
     have vf0:=foQ vn0 0
     obtain ⟨u1,ve0⟩:=nmQ (wa.setCell ⟨wr.heap.size,0,none⟩ (.int .i64 x.1))
     have vn1:u1.heap[wr.heap.size]?=some (.cells #[.int .i64 x.1,.int .i64 0] 60 (0,0)):=hsQ ve0 vn0
     have vc1:u1.cell? ⟨wr.heap.size,1,none⟩=some (.int .i64 0):=coQ vn1 1
     have vf1:=foQ vn1 1
     obtain ⟨u2,ve1⟩:=nmQ (u1.setCell ⟨wr.heap.size,1,none⟩ (.int .i64 x.2))
     have vn2:u2.heap[wr.heap.size]?=some (.cells #[.int .i64 x.1,.int .i64 x.2] 60 (0,0)):=hsQ ve1 vn1
     have HFu:=hid (show Foot W.heap.size W u2 (spItems W.heap.size bS bA bC G gc [] [] qv (places cx j ++ ((cx.C j).take m).map fun x=>(j,x)) (rowsR W.heap.size W.heap.size bT bl gk kv nv l3 F3 []) ++ [blkI wr.heap.size (.cells #[.int .i64 x.1,.int .i64 x.2] 60 (0,0))]) from by
      have h1:=foot_set (k:=0) (i:=0) (v:=.int .i64 x.1) hfa rfl
      rw [ve0] at h1
      have h2:=foot_set (m:=[blkI wr.heap.size (.cells #[.int .i64 x.1,.int .i64 0] 60 (0,0))]) (k:=0) (i:=1) (v:=.int .i64 x.2) h1 rfl
      rw [ve1] at h2
      exact h2)
     have HXM:=hid hx
     obtain ⟨we,ewe⟩:=nmQ (u2.drew)
     have HFe:=hid (HFu.out.below (show Below u2.heap.size u2 we by exact bdQ ewe))
     clear hx hfa na vn0 vn1 vn2
     obtain ⟨Q0,hQ0⟩:=nmQ (places cx j ++ ((cx.C j).take m).map (fun x=>(j,x)))
     rw [hQ0] at HFu HFe
     have hQ1:places cx j ++ ((cx.C j).take (m + 1)).map (fun x=>(j,x))=Q0 ++ [(j,x)]:=by
      rw [List.take_add_one,HXM.out,<-hQ0,List.append_assoc]
      simp
     have hQl:Q0.length<=1000000000000:=by
      rw [<-hQ0,List.length_append,List.length_map,List.length_take]
      have:=HPN.out j hjn
      have:=HLC.out
      omega
     have HH0:we.cell? ⟨bS,9,none⟩=some qv/\we.cell? ⟨wr.heap.size,0,none⟩=some (.int .i64 x.1)/\we.cell? ⟨wr.heap.size,1,none⟩=some (.int .i64 x.2):=⟨sp_c9 (rest:=_ ++ _) HFe.out hgl,coQ (foot_at HFe.out (k:=0) rfl) 0,coQ (foot_at HFe.out (k:=0) rfl) 1⟩
     obtain ⟨wq,eq⟩:=nmQ (we.alloc (.cells #[.int .i64 (j:Int),.int .i64 x.1,.int .i64 x.2] 158))
     have nq:wq.heap[we.heap.size]?=some (.cells #[.int .i64 (j:Int),.int .i64 x.1,.int .i64 x.2] 158 (0,0)):=nbQ eq
     have HFq:=hid (HFe.out.below (show Below we.heap.size we wq by exact baQ eq))
     have HH1:wq.cell? ⟨bS,9,none⟩=some qv/\wq.cell? ⟨wr.heap.size,0,none⟩=some (.int .i64 x.1)/\wq.cell? ⟨wr.heap.size,1,none⟩=some (.int .i64 x.2):=⟨sp_c9 (rest:=_ ++ _) HFq.out hgl,coQ (foot_at HFq.out (k:=0) rfl) 0,coQ (foot_at HFq.out (k:=0) rfl) 1⟩
     have HCQ:=hid (show ∀ i u,(plC (j,x))[i]?=some u->wq.cell? ⟨we.heap.size,i,none⟩=some u from fun i u hi=>by
      rw [coQ nq,<-hi,<-List.getElem?_toArray]
      rfl)
     have HBq:=hid (show W.heap.size<=wq.heap.size from Nat.le_trans HFq.out.le HFq.out.bel.size)
     obtain ⟨qo,qc,rfl⟩:=(sp_que (rest:=_ ++ _) HFq.out).shape
     have HQ0:=hid hQ0
     have HQ1:=hid hQ1
     clear nq hQ0 hQ1
     go_wp2_with fail
     clear vc0 vf0 vc1 vf1 ve0 ve1 ea r0 r1
     refine region_T 12 (fun w'=>w'.cell? ⟨bS,9,none⟩=some (.slice qo Q0.length qc)/\w'.cell? ⟨wr.heap.size,0,none⟩=some (.int .i64 x.1)/\w'.cell? ⟨wr.heap.size,1,none⟩=some (.int .i64 x.2)) (by kernel_rfl) (by rw [ewe]; exact HH0) (fun inv hHeld=>?_)
     rw [ewe]
     clear hHeld ewe
     iterate 8
      refine anyT_auto (v:=?_) rfl (by kernel_rfl) (fun _ _ _ h=>h) (Or.inl ⟨by rfl,?_⟩) HH0 inv (fun inv=>?_)
      rotate_left
      ·intro w hSw
       try dsimp only at hSw
       go_simp
       try with_reducible rfl
      simp only [Act.put,sjA,sj0,sjS]
     refine anyT_next (i:=8) (o:={dst:=some 58,op:=.buildSlice 154 1 #[(0,.tmp 57)],type:=154,pos := "look.go:71",after:=#[{on:=7,ground:=.data}],guard:=none}) (by kernel_rfl) rfl (by decide) inv (fun inv K' hK=>?_)
     go_simp
     refine hK.out _ _ HH1 ?_
     clear hK K' HH0
     try simp only [Act.put,sjA,sj0,sjS]
     refine anyT_next (i:=9) (o:={dst:=some 59,op:=.call {callee:=.builtin .append,args:=#[.tmp 54,.tmp 58],argTypes:=#[154,154]},type:=154,pos := "look.go:71",after:=#[{on:=4,ground:=.data},{on:=8,ground:=.data}],guard:=none}) (by kernel_rfl) rfl (by decide) inv (fun inv K' hK=>?_)
     simp only [Region.wanted]
     rw [if_pos trivial]
     refine wp_push_T (.tmp 54) (.tmp 58) 154 158 rfl (.agg #[.int .i64 0,.int .i64 0,.int .i64 0]) 3 24 Tryz.underlying154 info158 rfl (by decide) (.slice qo Q0.length qc) Q0.length (qcells Q0) rfl (sp_que (rest:=_ ++ _) HFq.out) we.heap.size rfl (plC (j,x)) rfl HCQ.out (fun q hq=>by
      unfold plC at hq
      simp only [List.mem_cons,List.not_mem_nil,or_false] at hq
      rcases hq with rfl | rfl | rfl <;> rfl) hQl HBq.out ?_
     intro ao c8 w8 hown hg hat
     have HF8:=hid (sp_push1 (rest:=_ ++ _) HFq.out hown hg hat)
     have hbx8:w8.heap[wr.heap.size]?=some (.cells #[.int .i64 x.1,.int .i64 x.2] 60 (0,0)):=foot_at (l:=blkI bS _ :: mapI 158 bA _ :: mapI 60 bC _ :: queI W.heap.size 3 _ (Q0.length + 1) (qcells Q0 ++ plC (j,x)) :: rowsR W.heap.size W.heap.size bT bl gk kv nv l3 F3 []) HF8.out (k:=0) rfl
     have hbS8:w8.heap[bS]?=some (.cells (gc ++ [Value.map (some bA),Value.map (some bC),Value.slice qo Q0.length qc]).toArray 156 (0,0)):=HF8.out.ok 0 _ rfl
     have c9:w8.cell? ⟨bS,9,none⟩=some (.slice qo Q0.length qc):=by rw [coQ hbS8]; simp [hgl]
     have f9:=foQ hbS8 9
     have HH2:w8.cell? ⟨bS,9,none⟩=some (.slice qo Q0.length qc)/\w8.cell? ⟨wr.heap.size,0,none⟩=some (.int .i64 x.1)/\w8.cell? ⟨wr.heap.size,1,none⟩=some (.int .i64 x.2):=⟨c9,coQ hbx8 0,coQ hbx8 1⟩
     refine hK.out _ _ HH2 ?_
     clear hK K' HH1 hown hg hat hbx8 hbS8
     try simp only [Act.put,sjA,sj0,sjS]
     iterate 2
      refine anyT_auto (v:=?_) rfl (by kernel_rfl) (fun _ _ _ h=>h) (Or.inl ⟨by rfl,?_⟩) HH2 inv (fun inv=>?_)
      rotate_left
      ·intro w hSw
       try dsimp only at hSw
       go_simp
       try with_reducible rfl
      simp only [Act.put,sjA,sj0,sjS]
     refine anyT_one (i:=12) (o:={dst:=none,op:=.store 154 (.tmp 61) (.tmp 59),type:=0,pos := "look.go:71",after:=#[{on:=11,ground:=.data},{on:=9,ground:=.data},{on:=9,ground:=.chain},{on:=0,ground:=.phase},{on:=1,ground:=.phase},{on:=2,ground:=.phase},{on:=3,ground:=.phase},{on:=4,ground:=.phase},{on:=5,ground:=.phase},{on:=6,ground:=.phase},{on:=7,ground:=.phase},{on:=8,ground:=.phase},{on:=9,ground:=.phase}],guard:=none}) (by kernel_rfl) rfl (fun K' hK=>?_)
     go_simp
     refine hK.out _ _ (fun h=>absurd h (by decide)) ?_
     clear hK K'
     try simp only [Act.put,sjA,sj0,sjS]
     refine anyT_done (by kernel_rfl) ?_ _
     have HS1:=hid (show Foot W.heap.size W (w8.setCell ⟨bS,9,none⟩ (.slice ao (Q0.length + 1) c8)) (spItems W.heap.size bS bA bC G gc [] [] (.slice ao (Q0.length + 1) c8) (places cx j ++ ((cx.C j).take (m + 1)).map fun x=>(j,x)) (rowsR W.heap.size W.heap.size bT bl gk kv nv l3 F3 [])) from by
      rw [HQ1.out]
      exact foot_drops (l:=spItems W.heap.size bS bA bC G gc [] [] _ (Q0 ++ [(j,x)]) (rowsR W.heap.size W.heap.size bT bl gk kv nv l3 F3 [])) (m:=[blkI wr.heap.size (.cells #[.int .i64 x.1,.int .i64 x.2] 60 (0,0))]) (sp_store (qv':=.slice ao (Q0.length + 1) c8) (Q:=Q0 ++ [(j,x)]) (rest:=rowsR W.heap.size W.heap.size bT bl gk kv nv l3 F3 [] ++ [blkI wr.heap.size (.cells #[.int .i64 x.1,.int .i64 x.2] 60 (0,0))]) HF8.out hgl (by simp) (qcells_push Q0 (j,x))))
     clear HF8 HFq HFe HFu HCQ c9 f9 HH2
     go_wp2_with fail
     refine ⟨⟨m + 1,_,by omega,rfl,HS1⟩,?_⟩
     show N - ((m:Int) + 1).toNat < N - ((m:Int)).toNat
     omega
    ·have m1:¬ (m:Int) < (N:Int):=by omega
     obtain rfl:m=N:=by omega
     have HS2:=hid (show Foot W.heap.size W wr (spItems W.heap.size bS bA bC G gc [] [] qv (places cx (j + 1)) (rowsR W.heap.size W.heap.size bT bl gk kv nv l3 F3 [])) from by
      rw [places_succ]
      have:=HF.out
      rw [<-HNN.out,List.take_length] at this
      exact this)
     clear HF
     go_wp2_with fail
     refine ⟨⟨j + 1,_,F3,l3,by omega,rfl,HS2,HR3⟩,?_⟩
     show n - ((j:Int) + 1).toNat < n - ((j:Int)).toNat
     omega
  ·have j1:¬ (j:Int) < (n:Int):=by omega
   obtain rfl:n=j:=by omega
   obtain ⟨wo,ewo⟩:=nmQ (wr.alloc (.cells #[.int .i64 63] 3))
   have no:wo.heap[wr.heap.size]?=some (.cells #[.int .i64 63] 3 (0,0)):=nbQ ewo
   have HFo:=hid (HF.out.below (show Below wr.heap.size wr wo by exact baQ ewo))
   have KO:=hid (S13.of63 wo wr.heap.size (coQ no 0))
   have hPl:=HPN.out n (Nat.le_refl _)
   have HWI:=hid (WQ.init (askX cx) (places cx n) (0,((-1:Int),(0:Int))) (bitN 63) (places cx n) (fun q hq=>hq) (fun q hq=>hq))
   obtain ⟨PS,hPS⟩:=nmQ (places cx n)
   have HPS:=hid hPS
   rw [hPS] at HFo HWI hPl
   have HB0:=hid (show ((0:Nat),((-1:Int),(0:Int))) ∈ PS from by
    rw [<-hPS,<-HCX.out]
    exact S13.X15.mem_places.2 ⟨hn0,S13.X15.first_in HB.out⟩)
   have KA:=hid (add_any HFo.out hgl (0,((-1:Int),(0:Int))) ⟨by decide,by decide,by decide,by decide,by decide⟩ (bitN 63) (by decide) (by decide) (by omega))
   unfold plV at KA
   have HRX:=hid HR1.out
   clear no hPS HF HR1
   go_wp2_with fail
   refine KO.out.mono ?_
   rintro e w7 ⟨rfl,rfl⟩
   clear ewo KO
   go_wp2_with fail
   refine KA.out.mono ?_
   rintro e w8 ⟨rfl,LA1,qv1,Q1,hf,hcase⟩
   obtain ⟨hw1,hs1,hl1⟩:=wq_start HWI.out HB0.out (by decide) hcase
   have HF8:=hid hf
   have HW8:=hid (And.intro hw1 (And.intro hs1 (Nat.le_trans hl1 (show PS.length + 64 * PS.length<=900000000 by omega))))
   clear hf hcase hw1 hs1 hl1 KA HFo HWI
   obtain ⟨R3,hR3⟩:∃ R3:Nat->World->Prop,R3=fun k wr=>∃ (LA:List (Pl × Nat)) (LC:List It) (qv:Value) (Q:List Pl),Foot W.heap.size W wr (spItems W.heap.size bS bA bC G gc LA LC qv Q (rowsR W.heap.size W.heap.size bT bl gk kv nv l F []))/\(WQ (askX cx) PS (0,((-1:Int),(0:Int))) (bitN 63) (getA LA) Q/\Sub (bitN 63) (getA LA (0,((-1:Int),(0:Int))))/\Q.length + miss PS (getA LA)<=900000000)/\Q.length + 2 * miss PS (getA LA)=k:=⟨_,rfl⟩
   have HR3:=hid hR3
   clear hR3
   go_wp2_with fail
   go_loopw [11] (fun t11 wr=>∃ k,R3 k wr) (fun _ wr=>minOf fun k=>R3 k wr)
   case atStart=>exact ⟨_,by rw [HR3.out]; exact ⟨LA1,[],qv1,Q1,HF8.out,HW8.out,rfl⟩⟩
   case round =>
    have hmin:=minOf_spec hrel
    obtain ⟨k,hk⟩:=nmQ ((minOf fun k=>R3 k wr))
    rw [hk] at hmin ⊢
    clear hrel hk HF8 HW8
    have HKK:=HR3.out
    rw [HR3.out] at hmin
    obtain ⟨LA,LC,qv,Q,hf,hw,hkk⟩:=hmin
    obtain ⟨qo,qc,rfl⟩:=(sp_que hf).shape
    have HF:=hid hf
    have HW:=hid hw
    have HK3:=hid hkk
    have c9:=sp_c9 hf hgl
    clear hf hw hkk HKK
    rcases Q with _ | ⟨⟨i,x⟩,Q⟩
    ·have c9:wr.cell? ⟨bS,9,none⟩=some (.slice qo 0 qc):=c9
     go_wp2_with fail
     have HL:=hid (HW.out.1.end_ HW.out.2.1)
     obtain ⟨qv,hqv⟩:=nmQ (Value.slice qo ([]:List Pl).length qc)
     rw [hqv] at HF
     obtain ⟨A,hA⟩:=nmQ (getA LA)
     rw [hA] at HL
     have HAA:=hid hA
     have HR2:=hid (Row2.start (A:=A) HRX.out)
     have HAR:=hid (show ARok cx.C A [] from fun i r hr=>by simp at hr)
     clear hqv hA HK3 HW HR3 c9
     go_loopw [12,14,95,104] (fun t12 t14 t95 t104 wr=>∃ (j:Nat) (l:List (Value × Value)) (AR:List (Value × List Value)),j<=n/\t95=.int .i64 (j:Int)/\Hid (Foot W.heap.size W wr (spItems W.heap.size bS bA bC G gc LA LC qv [] (rowsR W.heap.size W.heap.size bT bl gk kv nv l F AR)))/\Hid (Row2 cx.C A n j F l AR)/\Hid (ARok cx.C A AR)) (fun _ _ t95 _ _=>n - (RowKit.intOf t95).toNat)
     case atStart=>exact ⟨0,l,[],Nat.zero_le _,rfl,HF,HR2,HAR⟩
     case round =>
      clear HF HR2 HAR HRX
      obtain ⟨j,l,AR,hjn,rfl,HF,HR2,HAR⟩:=hrel
      by_cases hlj:j < n
      ·have j1:(j:Int) < (n:Int):=by omega
       have j0:(0:Int)<=(j:Int):=by omega
       obtain ⟨g,c,hgl2,hgF⟩:=HR2.out.at_ j hlj
       have q0:wr.cell? ⟨bl,j * 2,none⟩=some (.slice (some ⟨g,0,none⟩) (cx.C j).length c):=rr_c0 HF.out hgl2
       have HGF:=hid hgF
       have hLC:=HCL.out j
       have HNJ:=hid HR2.out.num
       obtain ⟨N,hN⟩:=nmQ ((cx.C j).length)
       rw [hN] at q0 hLC
       have HNN:=hid hN
       clear hgl2 hgF hN
       go_wp2_with fail
       have HF0:=hid (show Foot W.heap.size W wr (spItems W.heap.size bS bA bC G gc LA LC qv [] (rowsR W.heap.size W.heap.size bT bl gk kv nv l F (AR ++ [(.slice none 0 0,[])]))) from by
        rw [rowsR_push]
        exact foot_newrow (l:=spItems W.heap.size bS bA bC G gc LA LC qv [] (rowsR W.heap.size W.heap.size bT bl gk kv nv l F (AR))) HF.out)
       have HR0:=hid HR2.out.begin_
       clear HF HR2 q0
       go_loopw [14,104] (fun t14 t104 wr=>∃ (m:Nat) (l:List (Value × Value)) (v:Value) (xs:List Value),m<=N/\t104=.int .i64 (m:Int)/\Hid (Foot W.heap.size W wr (spItems W.heap.size bS bA bC G gc LA LC qv [] (rowsR W.heap.size W.heap.size bT bl gk kv nv l F (AR ++ [(v,xs)]))))/\Hid (Row2 cx.C A n (j + 1) F l (AR ++ [(v,xs)]))/\Hid (xs=((cx.C j).take m).map fun x=>u64 (A (j,x)))) (fun _ t104 _=>N - (RowKit.intOf t104).toNat)
       case atStart=>exact ⟨0,l,_,_,Nat.zero_le _,rfl,HF0,HR0,hid (by rw [List.take_zero]; rfl)⟩
       case round =>
        clear HF0 HR0
        obtain ⟨m,l,v,xs,hmN,rfl,HF,HR2,HXS⟩:=hrel
        by_cases hlm:m < N
        ·have m1:(m:Int) < (N:Int):=by omega
         have m0:(0:Int)<=(m:Int):=by omega
         obtain ⟨x,hx⟩:∃ x,(cx.C j)[m]?=some x:=⟨_,geQ (by rw [HNN.out]; exact hlm)⟩
         have hrow:=rr_fz HF.out (g,cx.C j) HGF.out m (by rw [HNN.out]; exact hlm)
         rw [(List.getElem?_eq_some_iff.1 hx).2] at hrow
         obtain ⟨r0,r1,_,_⟩:=hrow
         have HPO:=hid (place_ok (G:=G) (n:=n) HV.out hn2 (p:=(j,x)) (by
          rw [HCX.out]
          exact S13.X15.mem_places.2 ⟨hlj,List.mem_of_getElem? hx⟩))
         have HVX:=hid (show ∀ (w:World) (ex:List Item),Foot W.heap.size W w (spItems W.heap.size bS bA bC G gc LA LC qv [] (rowsR W.heap.size W.heap.size bT bl gk kv nv l F (AR ++ [(v,xs)]) ++ ex))->ownsT w W.heap.size 1 v xs.length xs from fun w ex hf=>by
          rw [rowsR_push,List.append_assoc] at hf
          exact foot_at (l:=spItems W.heap.size bS bA bC G gc LA LC qv [] (rowsR W.heap.size W.heap.size bT bl gk kv nv l F (AR))) (m:=[queI W.heap.size 1 v xs.length xs] ++ ex) hf (k:=0) rfl)
         have hxl:xs.length<=1000000000000:=by rw [HXS.out,List.length_map,List.length_take]; omega
         have HPE:Hid (∃ PJ:Value × Value,l[j]?=some PJ/\PJ.2=v):=hid (by
          obtain ⟨g',c',h4,_⟩:=HR2.out.at_ j hlj
          refine ⟨_,h4,?_⟩
          show ((AR ++ [(v,xs)]).map (·.1)).getD j (.slice none 0 0)=v
          rw [List.map_append,gdQ,List.getElem?_append_right (by rw [List.length_map,HNJ.out]; exact Nat.le_refl _),List.length_map,HNJ.out,Nat.sub_self]
          rfl)
         obtain ⟨PJ,hpj,rfl⟩:=HPE.out
         have HPJ:=hid hpj
         clear hpj
         obtain ⟨vo,vc,hve⟩:=(HVX.out _ [] (by rw [List.append_nil]; exact HF.out)).shape
         rw [hve] at HF HR2 HVX
         obtain ⟨wa,ea⟩:=nmQ (wr.alloc (.cells #[.int .i64 0,.int .i64 0] 60))
         have na:wa.heap[wr.heap.size]?=some (.cells #[.int .i64 0,.int .i64 0] 60 (0,0)):=nbQ ea
         have hfa:=foot_add1 HF.out ea na
         have vn0:wa.heap[wr.heap.size]?=some (.cells #[.int .i64 0,.int .i64 0] 60 (0,0)):=na
         have vc0:wa.cell? ⟨wr.heap.size,0,none⟩=some (.int .i64 0):=coQ vn0 0
         have vf0:=foQ vn0 0
         obtain ⟨u1,ve0⟩:=nmQ (wa.setCell ⟨wr.heap.size,0,none⟩ (.int .i64 x.1))
         have vn1:u1.heap[wr.heap.size]?=some (.cells #[.int .i64 x.1,.int .i64 0] 60 (0,0)):=hsQ ve0 vn0
         have vc1:u1.cell? ⟨wr.heap.size,1,none⟩=some (.int .i64 0):=coQ vn1 1
         have vf1:=foQ vn1 1
         obtain ⟨u2,ve1⟩:=nmQ (u1.setCell ⟨wr.heap.size,1,none⟩ (.int .i64 x.2))
         have vn2:u2.heap[wr.heap.size]?=some (.cells #[.int .i64 x.1,.int .i64 x.2] 60 (0,0)):=hsQ ve1 vn1
         have HFu:=hid (show Foot W.heap.size W u2 (spItems W.heap.size bS bA bC G gc LA LC qv [] (rowsR W.heap.size W.heap.size bT bl gk kv nv l F (AR ++ [((.slice vo xs.length vc),xs)])) ++ [blkI wr.heap.size (.cells #[.int .i64 x.1,.int .i64 x.2] 60 (0,0))]) from by
          have h1:=foot_set (k:=0) (i:=0) (v:=.int .i64 x.1) hfa rfl
          rw [ve0] at h1
          have h2:=foot_set (m:=[blkI wr.heap.size (.cells #[.int .i64 x.1,.int .i64 0] 60 (0,0))]) (k:=0) (i:=1) (v:=.int .i64 x.2) h1 rfl
          rw [ve1] at h2
          exact h2)
         obtain ⟨S,hS⟩:=nmQ (A (j,x))
         have HLK:=hid (show ∀ w',MapIs Tryz.prog 158 w' bA (amap LA)->(Instr.lookup 152 (.map (some bA)) (.agg #[.int .i64 (j:Int),.int .i64 x.1,.int .i64 x.2]) false).run Tryz.prog w'=.ok (u64 S) w' from fun w' hm=>by
          have:=amap_look hm HPO.out
          rw [HAA.out,hS] at this
          exact this)
         have HX1:=hid (show xs ++ [u64 S]=((cx.C j).take (m + 1)).map fun x=>u64 (A (j,x)) from by
          rw [List.take_add_one,hx,List.map_append,<-HXS.out,<-hS]
          rfl)
         obtain ⟨we,ewe⟩:=nmQ (u2.drew)
         have HFe:=hid (HFu.out.below (show Below u2.heap.size u2 we by exact bdQ ewe))
         have HPV:=hid hve
         clear hx hfa na vn0 vn1 vn2 hS hve
         have HH0:we.cell? ⟨bl,j * 2 + 1,none⟩=some (.slice vo xs.length vc)/\we.cell? ⟨bS,7,none⟩=some (.map (some bA))/\we.cell? ⟨wr.heap.size,0,none⟩=some (.int .i64 x.1)/\we.cell? ⟨wr.heap.size,1,none⟩=some (.int .i64 x.2)/\(Instr.lookup 152 (.map (some bA)) (.agg #[.int .i64 (j:Int),.int .i64 x.1,.int .i64 x.2]) false).run Tryz.prog we=.ok (u64 S) we:=by
          have h:=(⟨rr_c1 (foot_drops (m:=[blkI wr.heap.size (.cells #[.int .i64 x.1,.int .i64 x.2] 60 (0,0))]) HFe.out) HPJ.out,sp_c7 (rest:=_ ++ _) HFe.out hgl,coQ (foot_at HFe.out (k:=0) rfl) 0,coQ (foot_at HFe.out (k:=0) rfl) 1,HLK.out _ (sp_mapA (rest:=_ ++ _) HFe.out)⟩:we.cell? ⟨bl,j * 2 + 1,none⟩=some PJ.2/\we.cell? ⟨bS,7,none⟩=some (.map (some bA))/\we.cell? ⟨wr.heap.size,0,none⟩=some (.int .i64 x.1)/\we.cell? ⟨wr.heap.size,1,none⟩=some (.int .i64 x.2)/\(Instr.lookup 152 (.map (some bA)) (.agg #[.int .i64 (j:Int),.int .i64 x.1,.int .i64 x.2]) false).run Tryz.prog we=.ok (u64 S) we)
          rw [HPV.out] at h
          exact h
         obtain ⟨wq,eq⟩:=nmQ (we.alloc (.cells #[u64 S] 69))
         have nq:wq.heap[we.heap.size]?=some (.cells #[u64 S] 69 (0,0)):=nbQ eq
         have HFq:=hid (HFe.out.below (show Below we.heap.size we wq by exact baQ eq))
         have HH1:wq.cell? ⟨bl,j * 2 + 1,none⟩=some (.slice vo xs.length vc)/\wq.cell? ⟨bS,7,none⟩=some (.map (some bA))/\wq.cell? ⟨wr.heap.size,0,none⟩=some (.int .i64 x.1)/\wq.cell? ⟨wr.heap.size,1,none⟩=some (.int .i64 x.2)/\(Instr.lookup 152 (.map (some bA)) (.agg #[.int .i64 (j:Int),.int .i64 x.1,.int .i64 x.2]) false).run Tryz.prog wq=.ok (u64 S) wq:=by
          have h:=(⟨rr_c1 (foot_drops (m:=[blkI wr.heap.size (.cells #[.int .i64 x.1,.int .i64 x.2] 60 (0,0))]) HFq.out) HPJ.out,sp_c7 (rest:=_ ++ _) HFq.out hgl,coQ (foot_at HFq.out (k:=0) rfl) 0,coQ (foot_at HFq.out (k:=0) rfl) 1,HLK.out _ (sp_mapA (rest:=_ ++ _) HFq.out)⟩:wq.cell? ⟨bl,j * 2 + 1,none⟩=some PJ.2/\wq.cell? ⟨bS,7,none⟩=some (.map (some bA))/\wq.cell? ⟨wr.heap.size,0,none⟩=some (.int .i64 x.1)/\wq.cell? ⟨wr.heap.size,1,none⟩=some (.int .i64 x.2)/\(Instr.lookup 152 (.map (some bA)) (.agg #[.int .i64 (j:Int),.int .i64 x.1,.int .i64 x.2]) false).run Tryz.prog wq=.ok (u64 S) wq)
          rw [HPV.out] at h
          exact h
         have HCQ:=hid (show ∀ i u,[u64 S][i]?=some u->wq.cell? ⟨we.heap.size,i,none⟩=some u from fun i u hi=>by
          rw [coQ nq,<-hi,<-List.getElem?_toArray])
         have HBq:=hid (show W.heap.size<=wq.heap.size from Nat.le_trans HFq.out.le HFq.out.bel.size)
         clear nq
         go_wp2_with fail
         clear vc0 vf0 vc1 vf1 ve0 ve1 ea r0 r1
         refine region_T 19 (fun w'=>w'.cell? ⟨bl,j * 2 + 1,none⟩=some (.slice vo xs.length vc)/\w'.cell? ⟨bS,7,none⟩=some (.map (some bA))/\w'.cell? ⟨wr.heap.size,0,none⟩=some (.int .i64 x.1)/\w'.cell? ⟨wr.heap.size,1,none⟩=some (.int .i64 x.2)/\(Instr.lookup 152 (.map (some bA)) (.agg #[.int .i64 (j:Int),.int .i64 x.1,.int .i64 x.2]) false).run Tryz.prog w'=.ok (u64 S) w') (by kernel_rfl) (by rw [ewe]; exact HH0) (fun inv hHeld=>?_)
         rw [ewe]
         clear hHeld ewe
         iterate 14
          refine anyT_auto (v:=?_) rfl (by kernel_rfl) (fun _ _ _ h=>h) (Or.inl ⟨by rfl,?_⟩) HH0 inv (fun inv=>?_)
          rotate_left
          ·intro w hSw
           try dsimp only at hSw
           go_simp
           try with_reducible rfl
          simp only [Act.put,sjA,sj0,sjS]
         refine anyT_take (i:=14) (oi:={dst:=some 122,op:=.lookup 152 (.tmp 118) (.tmp 121) false,type:=69,pos := "look.go:82",after:=#[{on:=10,ground:=.data},{on:=13,ground:=.data}],guard:=none}) (v:=u64 S) rfl (by kernel_rfl) (by kernel_rfl) (by kernel_rfl) (by decide) (by decide) (by kernel_rfl) (by kernel_rfl) (fun _ _ _ h=>h) (Or.inl ⟨by rfl,?_⟩) HH0 inv (fun inv=>?_)
         ·intro w hSw
          try dsimp only at hSw
          exact look_exec rfl rfl rfl hSw.2.2.2.2
         simp only [Act.put,sjA,sj0,sjS]
         refine anyT_next (i:=15) (o:={dst:=some 123,op:=.buildSlice 46 1 #[(0,.tmp 122)],type:=46,pos := "look.go:82",after:=#[{on:=14,ground:=.data}],guard:=none}) (by kernel_rfl) rfl (by decide) inv (fun inv K' hK=>?_)
         go_simp
         refine hK.out _ _ HH1 ?_
         clear hK K' HH0
         try simp only [Act.put,sjA,sj0,sjS]
         refine anyT_next (i:=16) (o:={dst:=some 124,op:=.call {callee:=.builtin .append,args:=#[.tmp 114,.tmp 123],argTypes:=#[46,46]},type:=46,pos := "look.go:82",after:=#[{on:=6,ground:=.data},{on:=15,ground:=.data}],guard:=none}) (by kernel_rfl) rfl (by decide) inv (fun inv K' hK=>?_)
         simp only [Region.wanted]
         rw [if_pos trivial]
         refine wp_push_T (.tmp 114) (.tmp 123) 46 69 rfl (.int .u64 0) 1 8 Tryz.underlying46 info69 rfl (by decide) (.slice vo xs.length vc) xs.length xs rfl (HVX.out _ _ HFq.out) we.heap.size rfl [u64 S] rfl HCQ.out (fun q hq=>by
          obtain rfl:q=u64 S:=by simpa using hq
          rfl) hxl HBq.out ?_
         intro ao c8 w8 hown hg hat
         have HF8:=hid (show Foot W.heap.size W w8 (spItems W.heap.size bS bA bC G gc LA LC qv [] (rowsR W.heap.size W.heap.size bT bl gk kv nv l F (AR ++ [(.slice ao (xs.length + 1) c8,xs ++ [u64 S])])) ++ [blkI wr.heap.size (.cells #[.int .i64 x.1,.int .i64 x.2] 60 (0,0))]) from by
          have h1:Foot W.heap.size W wq (spItems W.heap.size bS bA bC G gc LA LC qv [] (rowsR W.heap.size W.heap.size bT bl gk kv nv l F (AR)) ++ [queI W.heap.size 1 (.slice vo xs.length vc) xs.length xs] ++ [blkI wr.heap.size (.cells #[.int .i64 x.1,.int .i64 x.2] 60 (0,0))]):=by
           have h0:=HFq.out
           rw [rowsR_push] at h0
           exact h0
          rw [List.append_assoc] at h1
          have h2:=foot_midpush (l:=spItems W.heap.size bS bA bC G gc LA LC qv [] (rowsR W.heap.size W.heap.size bT bl gk kv nv l F (AR))) (m:=[blkI wr.heap.size (.cells #[.int .i64 x.1,.int .i64 x.2] 60 (0,0))]) h1 hown hg hat
          rw [rowsR_push]
          have e:xs.length + 1=(xs ++ [u64 S]).length:=by simp
          rw [<-e]
          show Foot W.heap.size W w8 (spItems W.heap.size bS bA bC G gc LA LC qv [] (rowsR W.heap.size W.heap.size bT bl gk kv nv l F (AR)) ++ [queI W.heap.size 1 (.slice ao (xs.length + 1) c8) (xs.length + 1) (xs ++ [u64 S])] ++ [blkI wr.heap.size (.cells #[.int .i64 x.1,.int .i64 x.2] 60 (0,0))])
          rw [List.append_assoc]
          exact h2)
         have HH2:w8.cell? ⟨bl,j * 2 + 1,none⟩=some (.slice vo xs.length vc)/\w8.cell? ⟨bS,7,none⟩=some (.map (some bA))/\w8.cell? ⟨wr.heap.size,0,none⟩=some (.int .i64 x.1)/\w8.cell? ⟨wr.heap.size,1,none⟩=some (.int .i64 x.2)/\(Instr.lookup 152 (.map (some bA)) (.agg #[.int .i64 (j:Int),.int .i64 x.1,.int .i64 x.2]) false).run Tryz.prog w8=.ok (u64 S) w8:=by
          have h:=(⟨rr_c1 (foot_drops (m:=[blkI wr.heap.size (.cells #[.int .i64 x.1,.int .i64 x.2] 60 (0,0))]) HF8.out) HPJ.out,sp_c7 (rest:=_ ++ _) HF8.out hgl,coQ (foot_at HF8.out (k:=0) rfl) 0,coQ (foot_at HF8.out (k:=0) rfl) 1,HLK.out _ (sp_mapA (rest:=_ ++ _) HF8.out)⟩:w8.cell? ⟨bl,j * 2 + 1,none⟩=some PJ.2/\w8.cell? ⟨bS,7,none⟩=some (.map (some bA))/\w8.cell? ⟨wr.heap.size,0,none⟩=some (.int .i64 x.1)/\w8.cell? ⟨wr.heap.size,1,none⟩=some (.int .i64 x.2)/\(Instr.lookup 152 (.map (some bA)) (.agg #[.int .i64 (j:Int),.int .i64 x.1,.int .i64 x.2]) false).run Tryz.prog w8=.ok (u64 S) w8)
          rw [HPV.out] at h
          exact h
         have f9:=foQ (rr_bl (foot_drops (m:=[blkI wr.heap.size (.cells #[.int .i64 x.1,.int .i64 x.2] 60 (0,0))]) HF8.out)) (j * 2 + 1)
         refine hK.out _ _ HH2 ?_
         clear hK K' HH1 hown hg hat
         try simp only [Act.put,sjA,sj0,sjS]
         iterate 2
          refine anyT_auto (v:=?_) rfl (by kernel_rfl) (fun _ _ _ h=>h) (Or.inl ⟨by rfl,?_⟩) HH2 inv (fun inv=>?_)
          rotate_left
          ·intro w hSw
           try dsimp only at hSw
           go_simp
           try with_reducible rfl
          simp only [Act.put,sjA,sj0,sjS]
         refine anyT_one (i:=19) (o:={dst:=none,op:=.store 46 (.tmp 126) (.tmp 124),type:=0,pos := "look.go:82",after:=#[{on:=18,ground:=.data},{on:=16,ground:=.data},{on:=16,ground:=.chain},{on:=0,ground:=.phase},{on:=1,ground:=.phase},{on:=2,ground:=.phase},{on:=3,ground:=.phase},{on:=4,ground:=.phase},{on:=5,ground:=.phase},{on:=6,ground:=.phase},{on:=7,ground:=.phase},{on:=8,ground:=.phase},{on:=9,ground:=.phase},{on:=10,ground:=.phase},{on:=11,ground:=.phase},{on:=12,ground:=.phase},{on:=13,ground:=.phase},{on:=14,ground:=.phase},{on:=15,ground:=.phase},{on:=16,ground:=.phase}],guard:=none}) (by kernel_rfl) rfl (fun K' hK=>?_)
         go_simp
         refine hK.out _ _ (fun h=>absurd h (by decide)) ?_
         clear hK K'
         try simp only [Act.put,sjA,sj0,sjS]
         refine anyT_done (by kernel_rfl) ?_ _
         have HS1:=hid (show Foot W.heap.size W (w8.setCell ⟨bl,j * 2 + 1,none⟩ (.slice ao (xs.length + 1) c8)) (spItems W.heap.size bS bA bC G gc LA LC qv [] (rowsR W.heap.size W.heap.size bT bl gk kv nv (l.set j (PJ.1,.slice ao (xs.length + 1) c8)) F (AR ++ [(.slice ao (xs.length + 1) c8,xs ++ [u64 S])]))) from rr_set1 (foot_drops (m:=[blkI wr.heap.size (.cells #[.int .i64 x.1,.int .i64 x.2] 60 (0,0))]) HF8.out) HPJ.out _)
         clear HF8 HFq HFe HFu HCQ f9 HH2
         go_wp2_with fail
         have HR9:=hid (HR2.out.put (v':=.slice ao (xs.length + 1) c8) (xs':=xs ++ [u64 S]) HPJ.out)
         refine ⟨⟨m + 1,_,_,_,by omega,rfl,HS1,HR9,HX1⟩,?_⟩
         show N - ((m:Int) + 1).toNat < N - ((m:Int)).toNat
         omega
        ·have m1:¬ (m:Int) < (N:Int):=by omega
         obtain rfl:m=N:=by omega
         have HAR1:=hid (HAR.out.push (v:=v) (xs:=xs) (by
          rw [HNJ.out,HXS.out,<-HNN.out,List.take_length]))
         clear HXS
         go_wp2_with fail
         refine ⟨⟨j + 1,l,_,by omega,rfl,HF,HR2,HAR1⟩,?_⟩
         show n - ((j:Int) + 1).toNat < n - ((j:Int)).toNat
         omega
      ·have j1:¬ (j:Int) < (n:Int):=by omega
       obtain rfl:n=j:=by omega
       have HLO:=hid (look_of HF.out HR2.out HAR.out HCL.out hn2)
       have HBE:=hid HF.out.bel
       clear HF
       go_wp2_with fail
       go_ret
       refine ⟨HBE.out,_,A,rfl,?_,?_⟩
       ·rw [HCX.out,HPS.out]
        exact HL.out
       ·rw [HCX.out]
        exact HLO.out
    ·have c9:wr.cell? ⟨bS,9,none⟩=some (.slice qo (Q.length + 1) qc):=c9
     obtain ⟨g,off,rfl,hcs,hc1,hc2,_,_⟩:=(show ownsT wr W.heap.size 3 (.slice qo (Q.length + 1) qc) (Q.length + 1) (plC (i,x) ++ qcells Q) from by
      have:=sp_que HF.out
      rw [qcells_cons] at this
      exact this).next rfl
     have s0:wr.cell? ⟨g,off,none⟩=some (.int .i64 (i:Int)):=hcs 0 _ rfl
     have s1:wr.cell? ⟨g,off + 1,none⟩=some (.int .i64 x.1):=hcs 1 _ rfl
     have s2:wr.cell? ⟨g,off + 2,none⟩=some (.int .i64 x.2):=hcs 2 _ rfl
     obtain ⟨wa,ea⟩:=nmQ (wr.alloc (.cells #[.int .i64 0,.int .i64 0,.int .i64 0] 158))
     have na:wa.heap[wr.heap.size]?=some (.cells #[.int .i64 0,.int .i64 0,.int .i64 0] 158 (0,0)):=nbQ ea
     have hfa:=foot_add1 HF.out ea na
     have vn0:wa.heap[wr.heap.size]?=some (.cells #[.int .i64 0,.int .i64 0,.int .i64 0] 158 (0,0)):=na
     have vc0:wa.cell? ⟨wr.heap.size,0,none⟩=some (.int .i64 0):=coQ vn0 0
     have vf0:=foQ vn0 0
     obtain ⟨u1,ve0⟩:=nmQ (wa.setCell ⟨wr.heap.size,0,none⟩ (.int .i64 (i:Int)))
     have vn1:u1.heap[wr.heap.size]?=some (.cells #[.int .i64 (i:Int),.int .i64 0,.int .i64 0] 158 (0,0)):=hsQ ve0 vn0
     have vc1:u1.cell? ⟨wr.heap.size,1,none⟩=some (.int .i64 0):=coQ vn1 1
     have vf1:=foQ vn1 1
     obtain ⟨u2,ve1⟩:=nmQ (u1.setCell ⟨wr.heap.size,1,none⟩ (.int .i64 x.1))
     have vn2:u2.heap[wr.heap.size]?=some (.cells #[.int .i64 (i:Int),.int .i64 x.1,.int .i64 0] 158 (0,0)):=hsQ ve1 vn1
     have vc2:u2.cell? ⟨wr.heap.size,2,none⟩=some (.int .i64 0):=coQ vn2 2
     have vf2:=foQ vn2 2
     obtain ⟨u3,ve2⟩:=nmQ (u2.setCell ⟨wr.heap.size,2,none⟩ (.int .i64 x.2))
     have vn3:u3.heap[wr.heap.size]?=some (.cells #[.int .i64 (i:Int),.int .i64 x.1,.int .i64 x.2] 158 (0,0)):=hsQ ve2 vn2
     have HFu:=hid (show Foot W.heap.size W u3 (spItems W.heap.size bS bA bC G gc LA LC (.slice (some ⟨g,off,none⟩) ((i,x) :: Q).length qc) ((i,x) :: Q) (rowsR W.heap.size W.heap.size bT bl gk kv nv l F []) ++ [blkI wr.heap.size (.cells #[.int .i64 (i:Int),.int .i64 x.1,.int .i64 x.2] 158 (0,0))]) from by
      have h1:=foot_set (k:=0) (i:=0) (v:=.int .i64 (i:Int)) hfa rfl
      rw [ve0] at h1
      have h2:=foot_set (m:=[blkI wr.heap.size (.cells #[.int .i64 (i:Int),.int .i64 0,.int .i64 0] 158 (0,0))]) (k:=0) (i:=1) (v:=.int .i64 x.1) h1 rfl
      rw [ve1] at h2
      have h3:=foot_set (m:=[blkI wr.heap.size (.cells #[.int .i64 (i:Int),.int .i64 x.1,.int .i64 0] 158 (0,0))]) (k:=0) (i:=2) (v:=.int .i64 x.2) h2 rfl
      rw [ve2] at h3
      exact h3)
     have d9:u3.cell? ⟨bS,9,none⟩=some (.slice (some ⟨g,off,none⟩) (Q.length + 1) qc):=sp_c9 (rest:=_ ++ _) HFu.out hgl
     have f9:=foQ (sp_box (rest:=_ ++ _) HFu.out) 9
     obtain ⟨g',off',e',_,_,_,hnx,hnx1⟩:=(show ownsT u3 W.heap.size 3 (.slice (some ⟨g,off,none⟩) (Q.length + 1) qc) (Q.length + 1) (plC (i,x) ++ qcells Q) from by
      have:=sp_que (rest:=_ ++ _) HFu.out
      rw [qcells_cons] at this
      exact this).next rfl
     injection e' with e'
     injection e' with e1 e2 _
     subst e1 e2
     obtain ⟨nqv,hnq⟩:=nmQ ((if qc=1 then Value.slice (some ⟨g,off,none⟩) 0 0 else Value.slice (some ⟨g,off + 3,none⟩) Q.length (qc - 1)))
     have HNQ:=hid hnq
     obtain ⟨u4,e4⟩:=nmQ (u3.setCell ⟨bS,9,none⟩ nqv)
     have HF4:=hid (show Foot W.heap.size W u4 (spItems W.heap.size bS bA bC G gc LA LC nqv Q (rowsR W.heap.size W.heap.size bT bl gk kv nv l F []) ++ [blkI wr.heap.size (.cells #[.int .i64 (i:Int),.int .i64 x.1,.int .i64 x.2] 158 (0,0))]) from by
      rw [<-e4]
      refine sp_pop (rest:=_ ++ _) HFu.out hgl ?_ ?_
      ·rw [<-hnq]
       split
       ·rename_i hq1
        obtain ⟨h0,h1⟩:=hnx1 hq1
        obtain rfl:Q=[]:=List.eq_nil_of_length_eq_zero h0
        exact h1
       ·exact hnx
      ·intro b hb
       rw [<-hnq] at hb
       split at hb <;> exact hb)
     have v0:u4.cell? ⟨wr.heap.size,0,none⟩=some (.int .i64 (i:Int)):=coQ (foot_at HF4.out (k:=0) rfl) 0
     have v1:u4.cell? ⟨wr.heap.size,1,none⟩=some (.int .i64 x.1):=coQ (foot_at HF4.out (k:=0) rfl) 1
     have v2:u4.cell? ⟨wr.heap.size,2,none⟩=some (.int .i64 x.2):=coQ (foot_at HF4.out (k:=0) rfl) 2
     have KS:=spread_any (i:=i) (x:=x) (n:=n) (b0:=(0,((-1:Int),(0:Int)))) (v0:=bitN 63) (LA:=LA) (Q:=Q) (rest:=rowsR W.heap.size W.heap.size bT bl gk kv nv l F [] ++ [blkI wr.heap.size (.cells #[.int .i64 (i:Int),.int .i64 x.1,.int .i64 x.2] 158 (0,0))]) (by
      have hf4:=HF4.out
      rw [<-HGC.out] at hf4
      exact hf4) HGr.out HAu.out HB.out HV.out (by
      rw [HCX.out,HPS.out]
      exact HW.out.1.pop) (by
      rw [HCX.out,HPS.out]
      have:=HW.out.2.2
      have e:((i,x) :: Q).length=Q.length + 1:=rfl
      omega)
     unfold SpreadP plV at KS
     rw [HGC.out,HCX.out,HPS.out] at KS
     have KS:=hid KS
     clear hcs na vn0 vn1 vn2 vn3 hnx hnx1 hfa hnq
     by_cases hq1:qc=1
     ·subst hq1
      obtain rfl:Q=[]:=List.eq_nil_of_length_eq_zero (by omega)
      have e4:u3.setCell ⟨bS,9,none⟩ (.slice (some ⟨g,off,none⟩) 0 0)=u4:=by rw [<-e4,<-HNQ.out,if_pos rfl]
      go_wp2_with fail
      refine KS.out.mono ?_
      rintro e w9 ⟨rfl,LA2,LC2,qv2,Q2,hf9,hw9,hm9,hm92,hmono⟩
      clear vc0 vf0 vc1 vf1 vc2 vf2 ve0 ve1 ve2 ea e4 c9 d9 f9 s0 s1 s2 v0 v1 v2 KS
      have h9:R3 (Q2.length + 2 * miss PS (getA LA2)) w9:=by
       rw [HR3.out]
       refine ⟨LA2,LC2,qv2,Q2,foot_drops (l:=spItems W.heap.size bS bA bC G gc LA2 LC2 qv2 Q2 (rowsR W.heap.size W.heap.size bT bl gk kv nv l F [])) hf9,⟨hw9,S13.sub_trans HW.out.2.1 (hmono _),?_⟩,rfl⟩
       have:=HW.out.2.2
       rw [List.length_cons] at this
       omega
      have HR9:=hid (show (∃ k,R3 k w9)/\(minOf fun k=>R3 k w9) < k from by
       refine ⟨⟨_,h9⟩,Nat.lt_of_le_of_lt (minOf_le (p:=fun k=>R3 k w9) h9) ?_⟩
       have:=HK3.out
       rw [List.length_cons] at this
       omega)
      clear hf9 hw9 hm9 hm92 hmono h9
      go_wp2_with fail
      exact HR9.out
     ·have hq2:1 < qc:=by omega
      have e4:u3.setCell ⟨bS,9,none⟩ (.slice (some ⟨g,off + 3,none⟩) Q.length (qc - 1))=u4:=by rw [<-e4,<-HNQ.out,if_neg hq1]
      go_wp2_with fail
      refine KS.out.mono ?_
      rintro e w9 ⟨rfl,LA2,LC2,qv2,Q2,hf9,hw9,hm9,hm92,hmono⟩
      clear vc0 vf0 vc1 vf1 vc2 vf2 ve0 ve1 ve2 ea e4 c9 d9 f9 s0 s1 s2 v0 v1 v2 KS
      have h9:R3 (Q2.length + 2 * miss PS (getA LA2)) w9:=by
       rw [HR3.out]
       refine ⟨LA2,LC2,qv2,Q2,foot_drops (l:=spItems W.heap.size bS bA bC G gc LA2 LC2 qv2 Q2 (rowsR W.heap.size W.heap.size bT bl gk kv nv l F [])) hf9,⟨hw9,S13.sub_trans HW.out.2.1 (hmono _),?_⟩,rfl⟩
       have:=HW.out.2.2
       rw [List.length_cons] at this
       omega
      have HR9:=hid (show (∃ k,R3 k w9)/\(minOf fun k=>R3 k w9) < k from by
       refine ⟨⟨_,h9⟩,Nat.lt_of_le_of_lt (minOf_le (p:=fun k=>R3 k w9) h9) ?_⟩
       have:=HK3.out
       rw [List.length_cons] at this
       omega)
      clear hf9 hw9 hm9 hm92 hmono h9
      go_wp2_with fail
      exact HR9.out
end Go.Proofs.YticmnfmijdgmbaaGreatDoor
