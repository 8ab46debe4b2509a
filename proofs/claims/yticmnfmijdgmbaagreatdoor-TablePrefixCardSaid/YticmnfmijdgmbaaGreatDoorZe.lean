/- passedIn: the productions that are passed in a state, and what is ahead of each. -/
import Derived.Test.YticmnfmijdgmbaaGreatDoorGa
import Derived.Test.YticmnfmijdgmbaaGreatDoorZc
set_option linter.unusedVariables false
set_option linter.unusedSimpArgs false
namespace Go.Proofs.YticmnfmijdgmbaaGreatDoor
open Go Go.RowKit Go.Lib
open X14 (It rightX closeX)
open S13 (u64 hasN top)
open S16
theorem info188:(Tryz.prog.info? 188).map (fun i=>(i.zero,i.size,i.bytes))=some (some (.agg #[.int .i64 0,.int .u64 0]),2,16):=by kernel_rfl
theorem one_two {a b:Value} (ha:a.oneCell'=true) (hb:b.oneCell'=true) (q:Value) (hq:q ∈ [a,b]):q.oneCell'=true:=by
 rcases List.mem_cons.1 hq with rfl | hq
 ·exact ha
 ·rw [List.mem_singleton.1 hq]; exact hb
def pC (l:List (Int × Nat)):List Value:=l.flatMap fun x=>[.int .i64 x.1,u64 x.2]
theorem pC_append (a b:List (Int × Nat)):pC (a ++ b)=pC a ++ pC b:=by unfold pC; exact List.flatMap_append
def pass1 (G:GD) (l:List It) (us:List Nat) (p:Int):Int × Nat:=(p,us.getD (ixN (p,((rightX G p).length:Int)) l) 0)
noncomputable def passedX (G:GD) (l:List It) (us:List Nat):List (Int × Nat):=(doneN G l us l.length).map (pass1 G l us)
theorem done_mem {G:GD} {l:List It} {us:List Nat} {p:Int} (h:p ∈ doneN G l us l.length):(p,((rightX G p).length:Int)) ∈ l/\-1<=p/\p < (G.prods.length:Int):=by
 unfold doneN at h
 obtain ⟨i,hi,rfl⟩:=List.mem_map.1 h
 obtain ⟨hi1,hi2⟩:=List.mem_filter.1 hi
 have hd:=of_decide_eq_true hi2
 have hil:i < l.length:=by simpa using hi1
 have hth:=X14.there_iff.1 (((X14.closeX_is G l).2 (l.getD i (0,0))).1 hd.2.2.1).there
 refine ⟨?_,hth.1,hth.2.1⟩
 rw [<-hd.2.2.2]
 show l.getD i (0,0) ∈ l
 rw [gdQ,geQ hil]
 exact List.getElem_mem _
theorem ownsT_weaken {w:World} {B B' sz n:Nat} {v:Value} {xs:List Value} (h:ownsT w B sz v n xs) (hB:B'<=B):ownsT w B' sz v n xs:=by
 obtain ⟨hl,h | ⟨g,off,cap,rfl,h0,h1⟩⟩:=h
 ·exact ⟨hl,.inl h⟩
 ·exact ⟨hl,.inr ⟨g,off,cap,rfl,Nat.le_trans hB h0,h1⟩⟩
theorem ownsT_range {w:World} {B sz n:Nat} {v:Value} {xs:List Value} (h:ownsT w B sz v n xs) (b:Nat) (hb:b ∈ v.ownBlock.toList):B<=b/\b < w.heap.size:=by
 obtain ⟨hl,⟨rfl,_⟩ | ⟨g,off,cap,rfl,h0,h1,_⟩⟩:=h
 ·simp [Value.ownBlock] at hb
 ·obtain rfl:b=g:=by simpa [Value.ownBlock] using hb
  exact ⟨h0,h1⟩
theorem ownsT_cell {w:World} {B sz n m c:Nat} {o:Option Addr} {xs:List Value} (h:ownsT w B sz (.slice o m c) n xs) (hn:0 < n):∃ g off,o=some ⟨g,off,none⟩/\∀ j u,xs[j]?=some u->w.cell? ⟨g,off + j,none⟩=some u:=by
 obtain ⟨hl,⟨_,h0⟩ | ⟨g,off,cap,e,_,_,_,_,h3,_⟩⟩:=h
 ·omega
 ·injection e with e1 e2 e3
  exact ⟨g,off,e1,h3⟩
def PassedP (G:GD) (l:List It) (us:List Nat) (w:World) (e:Ending) (w':World):Prop:=
 ∃ v,e=.returned v/\Below w.heap.size w w'/\ownsT w' w.heap.size 2 v (passedX G l us).length (pC (passedX G l us))
set_option maxRecDepth 100000 in
set_option maxHeartbeats 8000000 in
theorem passed_any {G:GD} {gv iv av:Value} {w:World} {l:List It} {us:List Nat} (h:Gram w gv G) (hV:validB G=true) (hi:ItemsAt w iv l) (hl:l.length<=100000) (hu:U64s w av us) (hlu:us.length=l.length) :
  Calls Tryz.prog 75 #[gv,.agg #[iv,av]] w (PassedP G l us w):=by
 have HGr:=hid h
 have HI:=hid hi
 have HU:=hid hu
 obtain ⟨N,hN⟩:=nmQ (l.length)
 obtain ⟨io,ic,rfl,hil,_⟩:=hi
 obtain ⟨ao,ac,rfl,hul,hux⟩:=hu
 rw [hlu] at hux HU ⊢
 rw [hN] at HI HU hux ⊢
 have HUX:=hid hux
 have HN:=hid hN
 obtain ⟨tv,ov,sv,pv,tf,rv,h⟩:=h
 have hgv:=h.eq
 subst hgv
 obtain ⟨pa,pc,rfl,hpn,hpx⟩:=h.prods
 have hp0:0 < G.prods.length\/G.prods.length=0:=by omega
 obtain ⟨np,hnp⟩:=nmQ (G.prods.length)
 have HPR:=hid h
 rw [hnp] at HGr hpx ⊢
 obtain ⟨W1,e1⟩:=nmQ (w.alloc (.cells #[tv,ov,sv,.slice pa np pc,.int .i64 G.start] 27))
 have n1:W1.heap[w.heap.size]?=some (.cells #[tv,ov,sv,.slice pa np pc,.int .i64 G.start] 27 (0,0)):=nbQ e1
 obtain ⟨W2,e2⟩:=nmQ (W1.alloc (.cells #[.slice io N ic,.slice ao N ac] 48))
 have n2:W2.heap[W1.heap.size]?=some (.cells #[.slice io N ic,.slice ao N ac] 48 (0,0)):=nbQ e2
 have h2:Below W1.heap.size W1 W2:=baQ e2
 have f1:=foot_add1 (l:=[]) (Foot.empty w w.heap.size (Nat.le_refl _)) e1 n1
 have f2:=foot_add1 f1 e2 n2
 have c0:W2.cell? ⟨w.heap.size,0,none⟩=some tv:=cell_below h2 (coQ n1 0)
 have c1:W2.cell? ⟨w.heap.size,1,none⟩=some ov:=cell_below h2 (coQ n1 1)
 have c2:W2.cell? ⟨w.heap.size,2,none⟩=some sv:=cell_below h2 (coQ n1 2)
 have c3:W2.cell? ⟨w.heap.size,3,none⟩=some (.slice pa np pc):=cell_below h2 (coQ n1 3)
 have c4:W2.cell? ⟨w.heap.size,4,none⟩=some (.int .i64 G.start):=cell_below h2 (coQ n1 4)
 have d0:W2.cell? ⟨W1.heap.size,0,none⟩=some (.slice io N ic):=coQ n2 0
 have d1:W2.cell? ⟨W1.heap.size,1,none⟩=some (.slice ao N ac):=coQ n2 1
 have KD:=hid (Done_any (us:=us) (HGr.out.below f2.bel) hV (HI.out.below f2.bel) hl (RowAt.mono HU.out fun _ _ _ hc=>cell_below f2.bel hc))
 have HF2:=hid f2
 clear h f1 f2 n1 n2 h2 hux hN
 go_enter Tryz.func75,Tryz.ntmps75
 go_wp2_with fail
 refine KD.out.mono ?_
 rintro e w3 ⟨dv,rfl,hb3,hdv⟩
 obtain ⟨P,hP⟩:=nmQ (doneN G l us l.length)
 have HPM:=hid (show ∀ p ∈ P,(p,((rightX G p).length:Int)) ∈ l/\-1<=p/\p < (np:Int) from by rw [<-hP,<-hnp]; exact fun p hp=>done_mem hp)
 have HPP:=hid (show passedX G l us=P.map (pass1 G l us) from by unfold passedX; rw [hP])
 rw [hP] at hdv
 obtain ⟨nd,hnd⟩:=nmQ (P.length)
 have HND:=hid hnd
 have hndl:nd<=100000:=by
  rw [<-hnd,<-hP]
  exact Nat.le_trans (doneN_len G l us _) hl
 rw [hnd] at hdv
 obtain ⟨do_,dc,rfl⟩:=hdv.shape
 have f3:=HF2.out.add (queI w.heap.size 1 (.slice do_ nd dc) nd (P.map fun p=>.int .i64 p)) hb3 (ownsT_weaken hdv HF2.out.bel.size) (fun b hb=>ownsT_range hdv b hb)
 have HF:=hid (show Foot w.heap.size w w3 [blkI w.heap.size (.cells #[tv,ov,sv,.slice pa np pc,.int .i64 G.start] 27 (0,0)),blkI W1.heap.size (.cells #[.slice io N ic,.slice ao N ac] 48 (0,0)),queI w.heap.size 1 (.slice do_ nd dc) nd (P.map fun p=>.int .i64 p),queI w.heap.size 2 (.slice none 0 0) 0 (pC ([]))] from foot_newrow2 f3)
 clear hb3 hdv f3 KD HF2 c0 c1 c2 c3 c4 d0 d1 e1 e2 hP hnd
 go_wp2_with fail
 go_loopw [5,13] (fun t5 t13 wr=>∃ (i:Nat) (v:Value),i<=nd/\v=t5/\t13=.int .i64 (i:Int)/\Hid (Foot w.heap.size w wr [blkI w.heap.size (.cells #[tv,ov,sv,.slice pa np pc,.int .i64 G.start] 27 (0,0)),blkI W1.heap.size (.cells #[.slice io N ic,.slice ao N ac] 48 (0,0)),queI w.heap.size 1 (.slice do_ nd dc) nd (P.map fun p=>.int .i64 p),queI w.heap.size 2 v i (pC (((P.take i).map (pass1 G l us))))])) (fun _ t13 _=>nd - (RowKit.intOf t13).toNat)
 case atStart=>exact ⟨0,_,Nat.zero_le _,rfl,rfl,HF⟩
 case round =>
  clear HF
  obtain ⟨i,v,hiN,rfl,rfl,HF⟩:=hrel
  by_cases hlt:i < nd
  ·have j1:(i:Int) < (nd:Int):=by omega
   have j0:(0:Int)<=(i:Int):=by omega
   obtain ⟨p,hp⟩:∃ p,P[i]?=some p:=⟨_,geQ (by rw [HND.out]; exact hlt)⟩
   obtain ⟨hpl,hpb0,hpb1⟩:=HPM.out p (List.mem_of_getElem? hp)
   have HSX:=hid (show (P.take (i + 1)).map (pass1 G l us)=(P.take i).map (pass1 G l us) ++ [pass1 G l us p] from by
    rw [List.take_add_one,hp,List.map_append]; rfl)
   obtain ⟨db,df,rfl,hdc⟩:=ownsT_cell (show ownsT wr w.heap.size 1 (.slice do_ nd dc) nd _ from HF.out.ok 2 _ rfl) (by omega)
   have r0:wr.cell? ⟨db,df + i,none⟩=some (.int .i64 p):=hdc i _ (by rw [List.getElem?_map,hp]; rfl)
   obtain ⟨ln,hln⟩:=nmQ ((rightX G p).length)
   rw [hln] at hpl
   have HLN:=hid hln
   have HPL:=hid hpl
   obtain ⟨wa,ea⟩:=nmQ (wr.alloc (.cells #[.int .i64 0,.int .i64 0] 60))
   have na:wa.heap[wr.heap.size]?=some (.cells #[.int .i64 0,.int .i64 0] 60 (0,0)):=nbQ ea
   have hfa:=foot_add1 HF.out ea na
   have vn0:wa.heap[wr.heap.size]?=some (.cells #[.int .i64 0,.int .i64 0] 60 (0,0)):=na
   have vc0:wa.cell? ⟨wr.heap.size,0,none⟩=some (.int .i64 0):=coQ vn0 0
   have vf0:=foQ vn0 0
   obtain ⟨u1,ve0⟩:=nmQ (wa.setCell ⟨wr.heap.size,0,none⟩ (.int .i64 p))
   have vn1:u1.heap[wr.heap.size]?=some (.cells #[.int .i64 p,.int .i64 0] 60 (0,0)):=hsQ ve0 vn0
   have vc1:u1.cell? ⟨wr.heap.size,1,none⟩=some (.int .i64 0):=coQ vn1 1
   have vf1:=foQ vn1 1
   obtain ⟨u2,ve1⟩:=nmQ (u1.setCell ⟨wr.heap.size,1,none⟩ (.int .i64 1))
   have vn2:u2.heap[wr.heap.size]?=some (.cells #[.int .i64 p,.int .i64 1] 60 (0,0)):=hsQ ve1 vn1
   have HFu:=hid (show Foot w.heap.size w u2 ([blkI w.heap.size (.cells #[tv,ov,sv,.slice pa np pc,.int .i64 G.start] 27 (0,0)),blkI W1.heap.size (.cells #[.slice io N ic,.slice ao N ac] 48 (0,0)),queI w.heap.size 1 (.slice (some ⟨db,df,none⟩) nd dc) nd (P.map fun p=>.int .i64 p),queI w.heap.size 2 v i (pC (((P.take i).map (pass1 G l us))))] ++ [blkI wr.heap.size (.cells #[.int .i64 p,.int .i64 1] 60 (0,0))]) from by
    have h1:=foot_set (k:=0) (i:=0) (v:=.int .i64 p) hfa rfl
    rw [ve0] at h1
    have h2:=foot_set (m:=[blkI wr.heap.size (.cells #[.int .i64 p,.int .i64 0] 60 (0,0))]) (k:=0) (i:=1) (v:=.int .i64 1) h1 rfl
    rw [ve1] at h2
    exact h2)
   have HV2:=hid vn2
   clear hdc hfa na vn0 vn1 hln hpl
   by_cases hpn:p < 0
   ·have j2:decide (0<=p)=false:=decide_eq_false (by omega)
    have HFx:=hid (show Foot w.heap.size w u2 ([blkI w.heap.size (.cells #[tv,ov,sv,.slice pa np pc,.int .i64 G.start] 27 (0,0)),blkI W1.heap.size (.cells #[.slice io N ic,.slice ao N ac] 48 (0,0)),queI w.heap.size 1 (.slice (some ⟨db,df,none⟩) nd dc) nd (P.map fun p=>.int .i64 p),queI w.heap.size 2 v i (pC (((P.take i).map (pass1 G l us))))] ++ [blkI wr.heap.size (.cells #[.int .i64 p,.int .i64 (ln:Int)] 60 (0,0))]) from by
     have e:((ln:Nat):Int)=1:=by
      have h1:=HLN.out
      unfold X14.rightX at h1
      rw [if_pos (by omega)] at h1
      have h2:(1:Nat)=ln:=h1
      omega
     rw [e]
     exact HFu.out)
    clear HFu HV2 vn2
    obtain ⟨wd,ewd⟩:=nmQ (u2.drew)
    have hbd:Below u2.heap.size u2 wd:=bdQ ewd
    have HFd:=hid (HFx.out.below hbd)
    obtain ⟨ix,hix⟩:=nmQ (ixN (p,(ln:Int)) l)
    have hixl:ix < N:=by
     have h1:=ixN_get HPL.out
     rw [hix] at h1
     have:=(List.getElem?_eq_some_iff.1 h1).1
     rw [HN.out] at this
     exact this
    obtain ⟨S,hS⟩:=nmQ (us.getD ix 0)
    have HP1:=hid (show pass1 G l us p=(p,S) from by unfold pass1; rw [HLN.out,hix,hS])
    obtain ⟨ub,uf,rfl,hu1⟩:=HUX.out (by omega)
    have hu2:=hu1 ix hixl
    rw [hS] at hu2
    have m0:(0:Int)<=(ix:Int):=by omega
    have m1:(ix:Int) < (N:Int):=by omega
    have KI:=hid (show ∀ w',Below wd.heap.size wd w'->Calls Tryz.prog 95 #[.slice io N ic,.agg #[.int .i64 p,.int .i64 (ln:Int)]] w' fun e w''=>e=.returned (.int .i64 (ix:Int))/\Below w'.heap.size w' w'' from fun w' hC=>by
     have h1:=index_is (HI.out.below (HFd.out.below hC).bel) (p,(ln:Int)) (by omega)
     unfold ixX at h1
     rw [if_pos HPL.out,hix] at h1
     exact h1)
    have HS:=hid (show ∀ w',Below wd.heap.size wd w'->w'.cell? ⟨W1.heap.size,0,none⟩=some (.slice io N ic)/\w'.cell? ⟨W1.heap.size,1,none⟩=some (.slice (some ⟨ub,uf,none⟩) N ac)/\w'.cell? ⟨wr.heap.size,0,none⟩=some (.int .i64 p)/\w'.cell? ⟨wr.heap.size,1,none⟩=some (.int .i64 (ln:Int))/\w'.cell? ⟨ub,uf + ix,none⟩=some (u64 S) from fun w' hC=>by
     have hb:=(HFd.out.below hC).bel
     have n4:=foot_at (l:=[]) (m:=[blkI w.heap.size (.cells #[tv,ov,sv,.slice pa np pc,.int .i64 G.start] 27 (0,0)),blkI W1.heap.size (.cells #[.slice io N ic,.slice (some ⟨ub,uf,none⟩) N ac] 48 (0,0)),queI w.heap.size 1 (.slice (some ⟨db,df,none⟩) nd dc) nd (P.map fun p=>.int .i64 p),queI w.heap.size 2 v i (pC (((P.take i).map (pass1 G l us))))]) (foot_drops (HFd.out.below hC)) (k:=1) rfl
     have nx:=foot_at (HFd.out.below hC) (k:=0) rfl
     exact ⟨coQ n4 0,coQ n4 1,coQ nx 0,coQ nx 1,cell_below hb hu2⟩)
    have HH0:=HS.out wd (Below.refl _ _)
    obtain ⟨vo,vc,rfl⟩:=(show ownsT wd w.heap.size 2 v _ _ from HFd.out.ok 3 _ rfl).shape
    have HSZ:=hid hndl
    have HUC:=hid hu2
    clear hu1 hu2 hix hS hbd
    go_wp2_with fail
    clear vc0 vf0 vc1 vf1 ve0 ve1 ea r0
    refine region_T 13 (fun w'=>w'.cell? ⟨W1.heap.size,0,none⟩=some (.slice io N ic)/\w'.cell? ⟨W1.heap.size,1,none⟩=some (.slice (some ⟨ub,uf,none⟩) N ac)/\w'.cell? ⟨wr.heap.size,0,none⟩=some (.int .i64 p)/\w'.cell? ⟨wr.heap.size,1,none⟩=some (.int .i64 (ln:Int))/\w'.cell? ⟨ub,uf + ix,none⟩=some (u64 S)) (by kernel_rfl) (by rw [ewd]; exact HH0) (fun inv hHeld=>?_)
    rw [ewd]
    clear hHeld ewd
    iterate 7
     refine anyT_auto (v:=?_) rfl (by kernel_rfl) (fun _ _ _ h=>h) (Or.inl ⟨by rfl,?_⟩) HH0 inv (fun inv=>?_)
     rotate_left
     ·intro w hSw
      try dsimp only at hSw
      go_simp
      try with_reducible rfl
     simp only [Act.put,sjA,sj0,sjS]
    refine anyT_next (i:=7) (o:={dst:=some 36,op:=.call {callee:=.value (.func 95),args:=#[.tmp 34,.tmp 35],argTypes:=#[45,60]},type:=3,pos := "table.go:78",after:=#[{on:=5,ground:=.data},{on:=6,ground:=.data}],guard:=none}) (by kernel_rfl) rfl (by decide) inv (fun inv K' hK=>?_)
    go_simp
    refine (KI.out wd (Below.refl _ _)).mono ?_
    rintro e w7 ⟨rfl,hb7⟩
    have HF7:=hid (HFd.out.below hb7)
    have HH1:=HS.out w7 hb7
    refine hK.out _ _ HH1 ?_
    clear hK K' HH0
    try simp only [Act.put,sjA,sj0,sjS]
    iterate 3
     refine anyT_auto (v:=?_) rfl (by kernel_rfl) (fun _ _ _ h=>h) (Or.inl ⟨by rfl,?_⟩) HH1 inv (fun inv=>?_)
     rotate_left
     ·intro w hSw
      try dsimp only at hSw
      go_simp
      try with_reducible rfl
     simp only [Act.put,sjA,sj0,sjS]
    obtain ⟨wq,eq⟩:=nmQ (w7.alloc (.cells #[.int .i64 p,u64 S] 188))
    have nq:wq.heap[w7.heap.size]?=some (.cells #[.int .i64 p,u64 S] 188 (0,0)):=nbQ eq
    have hbq:Below w7.heap.size w7 wq:=baQ eq
    have HFq:=hid (HF7.out.below hbq)
    have HH2:=HS.out wq (hb7.trans (hbq.mono hb7.size))
    have HBQ:=hid (hb7.trans (hbq.mono hb7.size))
    have HCQ:=hid (show ∀ i u,[(.int .i64 p:Value),u64 S][i]?=some u->wq.cell? ⟨w7.heap.size,i,none⟩=some u from fun i u hi=>by
     rw [coQ nq,<-hi,<-List.getElem?_toArray])
    have HOQ:=hid (show ∀ q ∈ [(.int .i64 p:Value),u64 S],q.oneCell'=true from fun q hq=>one_two rfl rfl q hq)
    have HBq:=hid (show w.heap.size<=wq.heap.size from Nat.le_trans HFq.out.le HFq.out.bel.size)
    have HOW:=hid (show ownsT wq w.heap.size 2 (.slice vo i vc) i (pC ((P.take i).map (pass1 G l us))) from HFq.out.ok 3 _ rfl)
    clear nq hbq hb7
    refine anyT_next (i:=11) (o:={dst:=some 40,op:=.buildSlice 139 1 #[(0,.tmp 39)],type:=139,pos := "table.go:78",after:=#[{on:=10,ground:=.data}],guard:=none}) (by kernel_rfl) rfl (by decide) inv (fun inv K' hK=>?_)
    go_simp
    refine hK.out _ _ HH2 ?_
    clear hK K' HH1
    try simp only [Act.put,sjA,sj0,sjS]
    refine anyT_next (i:=12) (o:={dst:=some 41,op:=.call {callee:=.builtin .append,args:=#[.tmp 29,.tmp 40],argTypes:=#[139,139]},type:=139,pos := "table.go:78",after:=#[{on:=0,ground:=.data},{on:=11,ground:=.data},{on:=7,ground:=.chain}],guard:=none}) (by kernel_rfl) rfl (by decide) inv (fun inv K' hK=>?_)
    simp only [Region.wanted]
    rw [if_pos trivial]
    refine wp_push_T (.tmp 29) (.tmp 40) 139 188 rfl (.agg #[.int .i64 0,.int .u64 0]) 2 16 Tryz.underlying139 info188 rfl (by decide) (.slice vo i vc) i (pC ((P.take i).map (pass1 G l us))) rfl HOW.out w7.heap.size rfl [.int .i64 p,u64 S] rfl HCQ.out HOQ.out (by omega) HBq.out ?_
    intro ao2 c8 w8 hown hg8 hat
    have h8:=HFq.out.push_que 3 rfl hown hg8 hat
    have e9:pC ((P.take i).map (pass1 G l us)) ++ [.int .i64 p,u64 S]=pC ((P.take (i + 1)).map (pass1 G l us)):=by rw [HSX.out,pC_append,HP1.out]; rfl
    rw [e9] at h8
    have HF8:=hid (show Foot w.heap.size w w8 ([blkI w.heap.size (.cells #[tv,ov,sv,.slice pa np pc,.int .i64 G.start] 27 (0,0)),blkI W1.heap.size (.cells #[.slice io N ic,.slice (some ⟨ub,uf,none⟩) N ac] 48 (0,0)),queI w.heap.size 1 (.slice (some ⟨db,df,none⟩) nd dc) nd (P.map fun p=>.int .i64 p),queI w.heap.size 2 (.slice ao2 (i + 1) c8) (i + 1) (pC (((P.take (i + 1)).map (pass1 G l us))))] ++ [blkI wr.heap.size (.cells #[.int .i64 p,.int .i64 (ln:Int)] 60 (0,0))]) from h8)
    have n4:=foot_at (l:=[]) (m:=[blkI w.heap.size (.cells #[tv,ov,sv,.slice pa np pc,.int .i64 G.start] 27 (0,0)),blkI W1.heap.size (.cells #[.slice io N ic,.slice (some ⟨ub,uf,none⟩) N ac] 48 (0,0)),queI w.heap.size 1 (.slice (some ⟨db,df,none⟩) nd dc) nd (P.map fun p=>.int .i64 p),queI w.heap.size 2 (.slice ao2 (i + 1) c8) (i + 1) (pC (((P.take (i + 1)).map (pass1 G l us))))]) (foot_drops HF8.out) (k:=1) rfl
    have nx:=foot_at HF8.out (k:=0) rfl
    have hu8:w8.cell? ⟨ub,uf + ix,none⟩=some (u64 S):=cell_below HF8.out.bel HUC.out
    have HH9:w8.cell? ⟨W1.heap.size,0,none⟩=some (.slice io N ic)/\w8.cell? ⟨W1.heap.size,1,none⟩=some (.slice (some ⟨ub,uf,none⟩) N ac)/\w8.cell? ⟨wr.heap.size,0,none⟩=some (.int .i64 p)/\w8.cell? ⟨wr.heap.size,1,none⟩=some (.int .i64 (ln:Int))/\w8.cell? ⟨ub,uf + ix,none⟩=some (u64 S):=⟨coQ n4 0,coQ n4 1,coQ nx 0,coQ nx 1,hu8⟩
    refine hK.out _ _ HH9 ?_
    clear hK K' HH2 hown hg8 hat e9 h8 n4 nx
    try simp only [Act.put,sjA,sj0,sjS]
    refine anyT_one (i:=13) (o:={dst:=some 5,op:=.assign (.tmp 41),type:=139,pos := "table.go:78",after:=#[{on:=12,ground:=.data},{on:=12,ground:=.chain},{on:=0,ground:=.phase},{on:=1,ground:=.phase},{on:=2,ground:=.phase},{on:=3,ground:=.phase},{on:=4,ground:=.phase},{on:=5,ground:=.phase},{on:=6,ground:=.phase},{on:=7,ground:=.phase},{on:=8,ground:=.phase},{on:=9,ground:=.phase},{on:=10,ground:=.phase},{on:=11,ground:=.phase},{on:=12,ground:=.phase}],guard:=none}) (by kernel_rfl) rfl (fun K' hK=>?_)
    go_simp
    refine hK.out _ _ (fun h=>absurd h (by decide)) ?_
    clear hK K'
    try simp only [Act.put,sjA,sj0,sjS]
    refine anyT_done (by kernel_rfl) ?_ _
    have HF9:=hid (foot_drops HF8.out)
    clear HF8
    go_wp2_with fail
    refine ⟨⟨i + 1,_,by omega,rfl,rfl,HF9⟩,?_⟩
    show nd - ((i:Int) + 1).toNat < nd - ((i:Int)).toNat
    omega
   ·have j2:decide (0<=p)=true:=decide_eq_true (by omega)
    obtain ⟨j,rfl⟩:∃ j:Nat,p=(j:Int):=⟨p.toNat,by omega⟩
    have hjl:j < np:=by omega
    obtain ⟨pb,po,rfl,hpq⟩:=hpx (by omega)
    obtain ⟨_,_,p2,_⟩:=hpq j hjl
    obtain ⟨⟨ra,rc,hre,hrn,_⟩,_⟩:=HPR.out.rights j (by rw [hnp]; exact hjl)
    have hrl:(G.prods.getD j default).rs.length=ln:=by
     have h1:=HLN.out
     unfold X14.rightX at h1
     rw [if_neg (by omega)] at h1
     exact h1
    rw [hre,hrl] at p2
    have p2:=cell_below HFu.out.bel p2
    have j3:(j:Int) < (np:Int):=by omega
    have j4:(0:Int)<=(j:Int):=by omega
    have nb:=foot_at (l:=[]) (m:=[blkI w.heap.size (.cells #[tv,ov,sv,.slice (some ⟨pb,po,none⟩) np pc,.int .i64 G.start] 27 (0,0)),blkI W1.heap.size (.cells #[.slice io N ic,.slice ao N ac] 48 (0,0)),queI w.heap.size 1 (.slice (some ⟨db,df,none⟩) nd dc) nd (P.map fun p=>.int .i64 p),queI w.heap.size 2 v i (pC (((P.take i).map (pass1 G l us))))]) (foot_drops HFu.out) (k:=0) rfl
    have b3:u2.cell? ⟨w.heap.size,3,none⟩=some (.slice (some ⟨pb,po,none⟩) np pc):=coQ nb 3
    have q1:u2.cell? ⟨wr.heap.size,1,none⟩=some (.int .i64 1):=coQ vn2 1
    have qf:=foQ vn2 1
    obtain ⟨u3,e3⟩:=nmQ (u2.setCell ⟨wr.heap.size,1,none⟩ (.int .i64 (ln:Int)))
    have HFx:=hid (show Foot w.heap.size w u3 ([blkI w.heap.size (.cells #[tv,ov,sv,.slice (some ⟨pb,po,none⟩) np pc,.int .i64 G.start] 27 (0,0)),blkI W1.heap.size (.cells #[.slice io N ic,.slice ao N ac] 48 (0,0)),queI w.heap.size 1 (.slice (some ⟨db,df,none⟩) nd dc) nd (P.map fun p=>.int .i64 p),queI w.heap.size 2 v i (pC (((P.take i).map (pass1 G l us))))] ++ [blkI wr.heap.size (.cells #[.int .i64 (j:Int),.int .i64 (ln:Int)] 60 (0,0))]) from by
     have h1:=foot_set (m:=[blkI wr.heap.size (.cells #[.int .i64 (j:Int),.int .i64 1] 60 (0,0))]) (k:=0) (i:=1) (v:=.int .i64 (ln:Int)) HFu.out rfl
     rw [e3] at h1
     exact h1)
    clear HFu HV2 vn2 hpq nb hrl hre
    obtain ⟨wd,ewd⟩:=nmQ (u3.drew)
    have hbd:Below u3.heap.size u3 wd:=bdQ ewd
    have HFd:=hid (HFx.out.below hbd)
    obtain ⟨ix,hix⟩:=nmQ (ixN ((j:Int),(ln:Int)) l)
    have hixl:ix < N:=by
     have h1:=ixN_get HPL.out
     rw [hix] at h1
     have:=(List.getElem?_eq_some_iff.1 h1).1
     rw [HN.out] at this
     exact this
    obtain ⟨S,hS⟩:=nmQ (us.getD ix 0)
    have HP1:=hid (show pass1 G l us (j:Int)=((j:Int),S) from by unfold pass1; rw [HLN.out,hix,hS])
    obtain ⟨ub,uf,rfl,hu1⟩:=HUX.out (by omega)
    have hu2:=hu1 ix hixl
    rw [hS] at hu2
    have m0:(0:Int)<=(ix:Int):=by omega
    have m1:(ix:Int) < (N:Int):=by omega
    have KI:=hid (show ∀ w',Below wd.heap.size wd w'->Calls Tryz.prog 95 #[.slice io N ic,.agg #[.int .i64 (j:Int),.int .i64 (ln:Int)]] w' fun e w''=>e=.returned (.int .i64 (ix:Int))/\Below w'.heap.size w' w'' from fun w' hC=>by
     have h1:=index_is (HI.out.below (HFd.out.below hC).bel) ((j:Int),(ln:Int)) (by omega)
     unfold ixX at h1
     rw [if_pos HPL.out,hix] at h1
     exact h1)
    have HS:=hid (show ∀ w',Below wd.heap.size wd w'->w'.cell? ⟨W1.heap.size,0,none⟩=some (.slice io N ic)/\w'.cell? ⟨W1.heap.size,1,none⟩=some (.slice (some ⟨ub,uf,none⟩) N ac)/\w'.cell? ⟨wr.heap.size,0,none⟩=some (.int .i64 (j:Int))/\w'.cell? ⟨wr.heap.size,1,none⟩=some (.int .i64 (ln:Int))/\w'.cell? ⟨ub,uf + ix,none⟩=some (u64 S) from fun w' hC=>by
     have hb:=(HFd.out.below hC).bel
     have n4:=foot_at (l:=[]) (m:=[blkI w.heap.size (.cells #[tv,ov,sv,.slice (some ⟨pb,po,none⟩) np pc,.int .i64 G.start] 27 (0,0)),blkI W1.heap.size (.cells #[.slice io N ic,.slice (some ⟨ub,uf,none⟩) N ac] 48 (0,0)),queI w.heap.size 1 (.slice (some ⟨db,df,none⟩) nd dc) nd (P.map fun p=>.int .i64 p),queI w.heap.size 2 v i (pC (((P.take i).map (pass1 G l us))))]) (foot_drops (HFd.out.below hC)) (k:=1) rfl
     have nx:=foot_at (HFd.out.below hC) (k:=0) rfl
     exact ⟨coQ n4 0,coQ n4 1,coQ nx 0,coQ nx 1,cell_below hb hu2⟩)
    have HH0:=HS.out wd (Below.refl _ _)
    obtain ⟨vo,vc,rfl⟩:=(show ownsT wd w.heap.size 2 v _ _ from HFd.out.ok 3 _ rfl).shape
    have HSZ:=hid hndl
    have HUC:=hid hu2
    clear hu1 hu2 hix hS hbd
    go_wp2_with fail
    clear vc0 vf0 vc1 vf1 ve0 ve1 ea r0
    refine region_T 13 (fun w'=>w'.cell? ⟨W1.heap.size,0,none⟩=some (.slice io N ic)/\w'.cell? ⟨W1.heap.size,1,none⟩=some (.slice (some ⟨ub,uf,none⟩) N ac)/\w'.cell? ⟨wr.heap.size,0,none⟩=some (.int .i64 (j:Int))/\w'.cell? ⟨wr.heap.size,1,none⟩=some (.int .i64 (ln:Int))/\w'.cell? ⟨ub,uf + ix,none⟩=some (u64 S)) (by kernel_rfl) (by rw [ewd]; exact HH0) (fun inv hHeld=>?_)
    rw [ewd]
    clear hHeld ewd
    iterate 7
     refine anyT_auto (v:=?_) rfl (by kernel_rfl) (fun _ _ _ h=>h) (Or.inl ⟨by rfl,?_⟩) HH0 inv (fun inv=>?_)
     rotate_left
     ·intro w hSw
      try dsimp only at hSw
      go_simp
      try with_reducible rfl
     simp only [Act.put,sjA,sj0,sjS]
    refine anyT_next (i:=7) (o:={dst:=some 36,op:=.call {callee:=.value (.func 95),args:=#[.tmp 34,.tmp 35],argTypes:=#[45,60]},type:=3,pos := "table.go:78",after:=#[{on:=5,ground:=.data},{on:=6,ground:=.data}],guard:=none}) (by kernel_rfl) rfl (by decide) inv (fun inv K' hK=>?_)
    go_simp
    refine (KI.out wd (Below.refl _ _)).mono ?_
    rintro e w7 ⟨rfl,hb7⟩
    have HF7:=hid (HFd.out.below hb7)
    have HH1:=HS.out w7 hb7
    refine hK.out _ _ HH1 ?_
    clear hK K' HH0
    try simp only [Act.put,sjA,sj0,sjS]
    iterate 3
     refine anyT_auto (v:=?_) rfl (by kernel_rfl) (fun _ _ _ h=>h) (Or.inl ⟨by rfl,?_⟩) HH1 inv (fun inv=>?_)
     rotate_left
     ·intro w hSw
      try dsimp only at hSw
      go_simp
      try with_reducible rfl
     simp only [Act.put,sjA,sj0,sjS]
    obtain ⟨wq,eq⟩:=nmQ (w7.alloc (.cells #[.int .i64 (j:Int),u64 S] 188))
    have nq:wq.heap[w7.heap.size]?=some (.cells #[.int .i64 (j:Int),u64 S] 188 (0,0)):=nbQ eq
    have hbq:Below w7.heap.size w7 wq:=baQ eq
    have HFq:=hid (HF7.out.below hbq)
    have HH2:=HS.out wq (hb7.trans (hbq.mono hb7.size))
    have HBQ:=hid (hb7.trans (hbq.mono hb7.size))
    have HCQ:=hid (show ∀ i u,[(.int .i64 (j:Int):Value),u64 S][i]?=some u->wq.cell? ⟨w7.heap.size,i,none⟩=some u from fun i u hi=>by
     rw [coQ nq,<-hi,<-List.getElem?_toArray])
    have HOQ:=hid (show ∀ q ∈ [(.int .i64 (j:Int):Value),u64 S],q.oneCell'=true from fun q hq=>one_two rfl rfl q hq)
    have HBq:=hid (show w.heap.size<=wq.heap.size from Nat.le_trans HFq.out.le HFq.out.bel.size)
    have HOW:=hid (show ownsT wq w.heap.size 2 (.slice vo i vc) i (pC ((P.take i).map (pass1 G l us))) from HFq.out.ok 3 _ rfl)
    clear nq hbq hb7
    refine anyT_next (i:=11) (o:={dst:=some 40,op:=.buildSlice 139 1 #[(0,.tmp 39)],type:=139,pos := "table.go:78",after:=#[{on:=10,ground:=.data}],guard:=none}) (by kernel_rfl) rfl (by decide) inv (fun inv K' hK=>?_)
    go_simp
    refine hK.out _ _ HH2 ?_
    clear hK K' HH1
    try simp only [Act.put,sjA,sj0,sjS]
    refine anyT_next (i:=12) (o:={dst:=some 41,op:=.call {callee:=.builtin .append,args:=#[.tmp 29,.tmp 40],argTypes:=#[139,139]},type:=139,pos := "table.go:78",after:=#[{on:=0,ground:=.data},{on:=11,ground:=.data},{on:=7,ground:=.chain}],guard:=none}) (by kernel_rfl) rfl (by decide) inv (fun inv K' hK=>?_)
    simp only [Region.wanted]
    rw [if_pos trivial]
    refine wp_push_T (.tmp 29) (.tmp 40) 139 188 rfl (.agg #[.int .i64 0,.int .u64 0]) 2 16 Tryz.underlying139 info188 rfl (by decide) (.slice vo i vc) i (pC ((P.take i).map (pass1 G l us))) rfl HOW.out w7.heap.size rfl [.int .i64 (j:Int),u64 S] rfl HCQ.out HOQ.out (by omega) HBq.out ?_
    intro ao2 c8 w8 hown hg8 hat
    have h8:=HFq.out.push_que 3 rfl hown hg8 hat
    have e9:pC ((P.take i).map (pass1 G l us)) ++ [.int .i64 (j:Int),u64 S]=pC ((P.take (i + 1)).map (pass1 G l us)):=by rw [HSX.out,pC_append,HP1.out]; rfl
    rw [e9] at h8
    have HF8:=hid (show Foot w.heap.size w w8 ([blkI w.heap.size (.cells #[tv,ov,sv,.slice (some ⟨pb,po,none⟩) np pc,.int .i64 G.start] 27 (0,0)),blkI W1.heap.size (.cells #[.slice io N ic,.slice (some ⟨ub,uf,none⟩) N ac] 48 (0,0)),queI w.heap.size 1 (.slice (some ⟨db,df,none⟩) nd dc) nd (P.map fun p=>.int .i64 p),queI w.heap.size 2 (.slice ao2 (i + 1) c8) (i + 1) (pC (((P.take (i + 1)).map (pass1 G l us))))] ++ [blkI wr.heap.size (.cells #[.int .i64 (j:Int),.int .i64 (ln:Int)] 60 (0,0))]) from h8)
    have n4:=foot_at (l:=[]) (m:=[blkI w.heap.size (.cells #[tv,ov,sv,.slice (some ⟨pb,po,none⟩) np pc,.int .i64 G.start] 27 (0,0)),blkI W1.heap.size (.cells #[.slice io N ic,.slice (some ⟨ub,uf,none⟩) N ac] 48 (0,0)),queI w.heap.size 1 (.slice (some ⟨db,df,none⟩) nd dc) nd (P.map fun p=>.int .i64 p),queI w.heap.size 2 (.slice ao2 (i + 1) c8) (i + 1) (pC (((P.take (i + 1)).map (pass1 G l us))))]) (foot_drops HF8.out) (k:=1) rfl
    have nx:=foot_at HF8.out (k:=0) rfl
    have hu8:w8.cell? ⟨ub,uf + ix,none⟩=some (u64 S):=cell_below HF8.out.bel HUC.out
    have HH9:w8.cell? ⟨W1.heap.size,0,none⟩=some (.slice io N ic)/\w8.cell? ⟨W1.heap.size,1,none⟩=some (.slice (some ⟨ub,uf,none⟩) N ac)/\w8.cell? ⟨wr.heap.size,0,none⟩=some (.int .i64 (j:Int))/\w8.cell? ⟨wr.heap.size,1,none⟩=some (.int .i64 (ln:Int))/\w8.cell? ⟨ub,uf + ix,none⟩=some (u64 S):=⟨coQ n4 0,coQ n4 1,coQ nx 0,coQ nx 1,hu8⟩
    refine hK.out _ _ HH9 ?_
    clear hK K' HH2 hown hg8 hat e9 h8 n4 nx
    try simp only [Act.put,sjA,sj0,sjS]
    refine anyT_one (i:=13) (o:={dst:=some 5,op:=.assign (.tmp 41),type:=139,pos := "table.go:78",after:=#[{on:=12,ground:=.data},{on:=12,ground:=.chain},{on:=0,ground:=.phase},{on:=1,ground:=.phase},{on:=2,ground:=.phase},{on:=3,ground:=.phase},{on:=4,ground:=.phase},{on:=5,ground:=.phase},{on:=6,ground:=.phase},{on:=7,ground:=.phase},{on:=8,ground:=.phase},{on:=9,ground:=.phase},{on:=10,ground:=.phase},{on:=11,ground:=.phase},{on:=12,ground:=.phase}],guard:=none}) (by kernel_rfl) rfl (fun K' hK=>?_)
    go_simp
    refine hK.out _ _ (fun h=>absurd h (by decide)) ?_
    clear hK K'
    try simp only [Act.put,sjA,sj0,sjS]
    refine anyT_done (by kernel_rfl) ?_ _
    have HF9:=hid (foot_drops HF8.out)
    clear HF8
    go_wp2_with fail
    refine ⟨⟨i + 1,_,by omega,rfl,rfl,HF9⟩,?_⟩
    show nd - ((i:Int) + 1).toNat < nd - ((i:Int)).toNat
    omega
  ·have j1:¬ (i:Int) < (nd:Int):=by omega
   obtain rfl:i=nd:=by omega
   have HOW:=hid (show ownsT wr w.heap.size 2 _ _ _ from HF.out.ok 3 _ rfl)
   have HBE:=hid HF.out.bel
   clear HF
   go_wp2_with fail
   go_ret
   refine ⟨_,rfl,HBE.out,?_⟩
   have h1:=HOW.out
   rw [List.take_of_length_le (by rw [HND.out]; exact Nat.le_refl _)] at h1
   rw [HPP.out,List.length_map,HND.out]
   exact h1
end Go.Proofs.YticmnfmijdgmbaaGreatDoor

namespace Go.Proofs.YticmnfmijdgmbaaGreatDoor
open Go Go.RowKit Go.Lib
open X14 (It)
open S13 (u64)
open S16
def gI (B sz:Nat) (R:List (Value × Nat × List Value)):Item where
 bl:=R.flatMap fun r=>r.1.ownBlock.toList
 ok w:=∀ r ∈ R,ownsT w B sz r.1 r.2.1 r.2.2
 kept h hw r hr:=(hw r hr).kept fun g hg=>h g (List.mem_flatMap.2 ⟨r,hr,by rw [hg]; simp⟩)
section
variable {B sz:Nat} {W w w':World} {l m:List Item} {v:Value} {n:Nat} {xs:List Value} {R:List (Value × Nat × List Value)}
theorem gI_bl:∀ b,b ∈ (gI B sz (R ++ [(v,n,xs)])).bl ↔ (b ∈ (gI B sz R).bl\/b ∈ v.ownBlock.toList):=fun b=>by
 show b ∈ (R ++ [(v,n,xs)]).flatMap _ ↔ b ∈ R.flatMap _\/_
 rw [List.flatMap_append,List.mem_append]
 simp
theorem foot_gnew (h:Foot B W w l):Foot B W w (l ++ [gI B sz []]):=
 h.add (gI B sz []) (Below.refl _ _) (fun r hr=>by cases hr) (fun c hc=>by
  have:c ∈ ([]:List (Value × Nat × List Value)).flatMap (fun r=>r.1.ownBlock.toList):=hc
  simp at this)
theorem foot_gadd (h:Foot B W w (l ++ m)) {k:Nat} (hk:m[k]?=some (gI B sz R)) (hb:Below w.heap.size w w') (hr:ownsT w' B sz v n xs) (h1:∀ b ∈ v.ownBlock.toList,w.heap.size<=b/\b < w'.heap.size) :
  Foot B W w' (l ++ m.set k (gI B sz (R ++ [(v,n,xs)]))):=by
 have hkk:(l ++ m)[l.length + k]?=some (gI B sz R):=by rw [List.getElem?_append_right (Nat.le_add_right _ _),Nat.add_sub_cancel_left]; exact hk
 have:=h.upd (l.length + k) hkk (gI B sz (R ++ [(v,n,xs)])) ((Touch.below hb).mono (by simp)) (fun q hq=>by
  rcases List.mem_append.1 hq with e | e
  ·exact ((h.below hb).ok _ _ hkk) q e
  ·obtain rfl:q=(v,n,xs):=by simpa using e
   exact hr) (fun b hbm=>by
  rcases (gI_bl b).1 hbm with e | e
  ·have h5:=(h.lt _ _ hkk b e).2
   have h6:=hb.size
   exact ⟨.inl e,by omega⟩
  ·exact ⟨.inr (h1 b e).1,(h1 b e).2⟩)
 rw [List.set_append_right _ _ (Nat.le_add_right _ _),Nat.add_sub_cancel_left] at this
 exact this
theorem foot_gmove (h:Foot B W w (l ++ [queI B sz v n xs,gI B sz R])):Foot B W w (l ++ [gI B sz (R ++ [(v,n,xs)])]):=by
 have hq:(l ++ [queI B sz v n xs,gI B sz R])[l.length]?=some (queI B sz v n xs):=by rw [List.getElem?_append_right (Nat.le_refl _),Nat.sub_self]; rfl
 have hg:(l ++ [queI B sz v n xs,gI B sz R])[l.length + 1]?=some (gI B sz R):=by rw [List.getElem?_append_right (Nat.le_add_right _ _),Nat.add_sub_cancel_left]; rfl
 have old:∀ (i:Nat) x,(l ++ [gI B sz (R ++ [(v,n,xs)])])[i]?=some x->(i < l.length/\(l ++ [queI B sz v n xs,gI B sz R])[i]?=some x)\/(i=l.length/\x=gI B sz (R ++ [(v,n,xs)])):=fun i x hx=>by
  by_cases hi:i < l.length
  ·rw [List.getElem?_append_left hi] at hx
   exact .inl ⟨hi,by rw [List.getElem?_append_left hi]; exact hx⟩
  ·rw [List.getElem?_append_right (by omega)] at hx
   have hlt:=(List.getElem?_eq_some_iff.1 hx).1
   have hlt:i - l.length < 1:=hlt
   obtain rfl:i=l.length:=by omega
   rw [Nat.sub_self] at hx
   exact .inr ⟨rfl,(Option.some.inj hx).symm⟩
 have part:∀ b,b ∈ (gI B sz (R ++ [(v,n,xs)])).bl->b ∈ (gI B sz R).bl\/b ∈ (queI B sz v n xs).bl:=fun b hb=>(gI_bl b).1 hb
 refine ⟨h.bel,h.le,fun i x hx=>?_,fun i x hx b hb=>?_,fun i j x y b hx hy hbx hby=>?_⟩
 ·rcases old i x hx with ⟨_,h1⟩ | ⟨_,rfl⟩
  ·exact h.ok i x h1
  ·intro r hr
   rcases List.mem_append.1 hr with e | e
   ·exact (h.ok _ _ hg) r e
   ·obtain rfl:r=(v,n,xs):=by simpa using e
    exact h.ok _ _ hq
 ·rcases old i x hx with ⟨_,h1⟩ | ⟨_,rfl⟩
  ·exact h.lt i x h1 b hb
  ·rcases part b hb with e | e
   ·exact h.lt _ _ hg b e
   ·exact h.lt _ _ hq b e
 ·rcases old i x hx with ⟨hi,h1⟩ | ⟨hi,rfl⟩
  ·rcases old j y hy with ⟨hj,h2⟩ | ⟨hj,rfl⟩
   ·exact h.apart i j x y b h1 h2 hbx hby
   ·exfalso
    rcases part b hby with e | e
    ·have:=h.apart i _ x _ b h1 hg hbx e; omega
    ·have:=h.apart i _ x _ b h1 hq hbx e; omega
  ·rcases old j y hy with ⟨hj,h2⟩ | ⟨hj,rfl⟩
   ·exfalso
    rcases part b hbx with e | e
    ·have:=h.apart _ j _ y b hg h2 e hby; omega
    ·have:=h.apart _ j _ y b hq h2 e hby; omega
   ·omega
end
theorem dC_get:∀ (l:List It) (i:Nat),i < l.length->(dC l)[i * 2]?=some (.int .i64 (l.getD i (0,0)).1)/\(dC l)[i * 2 + 1]?=some (.int .i64 (l.getD i (0,0)).2)
 | [],i,h=>by simp at h
 | x :: l,0,_=>⟨rfl,rfl⟩
 | x :: l,i + 1,h=>by
  obtain ⟨h1,h2⟩:=dC_get l i (by simpa using h)
  have e:dC (x :: l)=.int .i64 x.1 :: .int .i64 x.2 :: dC l:=rfl
  rw [e,show (i + 1) * 2=i * 2 + 1 + 1 from by omega,List.getElem?_cons_succ,List.getElem?_cons_succ,List.getElem?_cons_succ,List.getElem?_cons_succ]
  exact ⟨by simpa using h1,by simpa using h2⟩
theorem ownsT.items {w:World} {B:Nat} {v:Value} {l:List It} (h:ownsT w B 2 v l.length (dC l)):ItemsAt w v l:=by
 obtain ⟨hl,⟨rfl,h0⟩ | ⟨g,off,cap,rfl,_,_,h1,h2,h3,_⟩⟩:=h
 ·exact ⟨none,0,by rw [h0],by omega,fun h=>absurd h (by omega)⟩
 ·refine ⟨_,_,rfl,by unfold maxLen at h2; omega,fun _=>⟨g,off,rfl,fun i hi=>?_⟩⟩
  obtain ⟨k0,k1⟩:=dC_get l i hi
  exact ⟨h3 _ _ k0,by rw [Nat.add_assoc]; exact h3 _ _ k1⟩
end Go.Proofs.YticmnfmijdgmbaaGreatDoor
