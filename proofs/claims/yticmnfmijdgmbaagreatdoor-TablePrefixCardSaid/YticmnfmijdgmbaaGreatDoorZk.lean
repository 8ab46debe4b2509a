/- table.Clashes and table.Build. -/
import Derived.Test.YticmnfmijdgmbaaGreatDoorZj
set_option linter.unusedVariables false
set_option linter.unusedSimpArgs false
namespace Go.Proofs.YticmnfmijdgmbaaGreatDoor
open Go Go.RowKit Go.Lib
open X14 (It iterB BuiltOk BuiltMany closeX)
open S13 (u64 bitN top E0 F0 Sub)
open S13.X15 (Pl LeastA askX places cxB)
open S16
theorem size96:(Tryz.prog.info? 96).map (·.size)=some 3:=by kernel_rfl
theorem results96 {fn:Func} (h:fn.results=#[.cell 2 96,.tmp 3]) (tmps:Array Value) (w:World) (g:Nat) (a b c:Value) (n:Int)
  (hp:tmps.getD 2 undef=.pointer (some ⟨g,0,none⟩)) (hn:tmps.getD 3 undef=.int .i64 n) (hg:w.heap[g]?=some (.cells #[a,b,c] 96 (0,0))) :
  (results fn tmps).run Tryz.prog w=.ok (.tuple #[.agg #[a,b,c],.int .i64 n]) w:=by
 rw [results_cell_tmp h,hp,hn]
 simp [asAddr,Result.andThen,run_loadVar_row w g 96 96 #[a,b,c] (0,0) _ hg Tryz.underlying96 rfl (by rw [size96]; rfl)]
theorem made_next (n:Nat) (hn:n<=1000000) (w:World):(Instr.makeSlice 43 (.int .i64 0) (.int .i64 (n:Int))).run Tryz.prog w=.ok (.slice (some ⟨w.heap.size,0,none⟩) 0 n) (w.alloc (.cells (Array.replicate n (.int .i64 0)) 3)):=by
 obtain ⟨i0,hi,hz0,hz1,hz2⟩:=info_parts info3
 have:=run_makeSlice (P:=Tryz.prog) (w:=w) 43 3 i0 (.int .i64 0) Tryz.underlying43 hi hz0 .i64 .i64 (0:Int) (n:Int) (by omega) (by omega) (by rw [hz1]; omega) (by rw [hz2]; omega) (by omega)
 rw [this,hz1]
 have e:madeCells (Value.int .i64 0).cells ((n:Int).toNat * 1)=Array.replicate n (.int .i64 0):=by
  rw [Int.toNat_natCast,Nat.mul_one]
  refine Array.ext (by simp [madeCells]) fun i h1 h2=>?_
  simp [madeCells,Value.cells,Nat.mod_one]
 rw [e,Int.toNat_natCast]
 rfl
theorem own_next {w:World} {B b S:Nat} (hB:B<=b) (hS:S<=1000) (h:w.heap[b]?=some (.cells (Array.replicate S (.int .i64 0)) 3 (0,0))):ownsT w B 1 (.slice (some ⟨b,0,none⟩) 0 S) 0 []:=by
 refine ⟨rfl,.inr ⟨b,0,S,rfl,hB,(ltQ h),Nat.zero_le _,by unfold maxLen; omega,fun j u hj=>by simp at hj,fun j hj=>⟨?_,?_⟩⟩⟩
 ·rw [Nat.zero_add,coQ h j]
  have hj:j < S:=by omega
  simp [hj]
 ·exact foQ h _
theorem built2 {G:GD} {n:Nat} (h:BuiltOk G n):n<=2000:=by
 have:=h.1.le
 rw [h.inv.2.2] at this
 exact this
def cntS (D:Nat->Nat->List It) (i k:Nat):Nat:=(D i k).length
theorem shapes {w:World} {v:Value} {n m:Nat} {D:Nat->Nat->List It} (h:RowsAt w v n (fun i u=>RowsAt w u m (fun k u'=>ItemsAt w u' (D i k)))):RowsAt w v n (fun i u=>RowsAt w u m (fun k u'=>∃ o c,u'=.slice o (cntS D i k) c)):=
 RowAt.mono h fun i b off ⟨u,h1,h2⟩=>⟨u,h1,RowAt.mono h2 fun k b off ⟨u',h3,h4⟩=>⟨u',h3,by
  obtain ⟨o,c,e,_⟩:=h4.len
  exact ⟨o,c,e⟩⟩⟩
theorem states_below {w w':World} {v:Value} {n m:Nat} {D:Nat->Nat->List It} (h:RowsAt w v n (fun i u=>RowsAt w u m (fun k u'=>ItemsAt w u' (D i k)))) (hb:Below w.heap.size w w'):RowsAt w' v n (fun i u=>RowsAt w' u m (fun k u'=>ItemsAt w' u' (D i k))):=
 RowsAt.below h hb fun i u hu=>RowsAt.below hu hb fun k u' h4=>ItemsAt.below h4 hb
def ClashesP (G:GD) (w:World) (e:Ending) (w':World):Prop:=
 Below w.heap.size w w'/\((validB G=false/\e=.returned (.slice none 0 0))\/(validB G=true/\∃ n,(BuiltMany G n/\e=.returned (.slice none 0 0)) \/
  (BuiltOk G n/\∃ v A,e=.returned v/\LeastA (askX (cxB G n (E0 G) (F0 G))) (places (cxB G n (E0 G) (F0 G)) n) (0,(-1,0)) (bitN 63) A /\
   ownsT w' w.heap.size 2 v (clX (cntS (deedsS G (iterB G n).nx (cxB G n (E0 G) (F0 G)).C A)) (G.terms.length + 1) n).length (dC (clX (cntS (deedsS G (iterB G n).nx (cxB G n (E0 G) (F0 G)).C A)) (G.terms.length + 1) n)))))
set_option maxRecDepth 100000 in
set_option maxHeartbeats 8000000 in
theorem Clashes_any {G:GD} {gv:Value} {w:World} {Bt:Nat} (h:Gram w gv G) (ht:Tab Bt w) (hBt:Bt<=w.heap.size):Calls Tryz.prog 37 #[gv] w (ClashesP G w):=by
 have HGr:=hid h
 have HT:=hid ht
 obtain ⟨tv,ov,sv,pv,tf,rv,h⟩:=h
 have hgv:=h.eq
 subst hgv
 obtain ⟨W1,e1⟩:=nmQ (w.alloc (.cells #[tv,ov,sv,pv,.int .i64 G.start] 27))
 have n1:W1.heap[w.heap.size]?=some (.cells #[tv,ov,sv,pv,.int .i64 G.start] 27 (0,0)):=nbQ e1
 have hb1:Below w.heap.size w W1:=baQ e1
 have HB1:=hid hb1
 obtain ⟨c0,c1,c2,c3,c4⟩:=cells5 n1
 have KA:=hid (AllT_any (HGr.out.below hb1) (ht.on (hb1.mono hBt)) (Nat.le_trans hBt hb1.size))
 clear h ht hb1 n1
 go_enter Tryz.func37,Tryz.ntmps37
 go_wp2_with fail
 refine KA.out.mono ?_
 rintro e w2 ⟨hb2,hcase⟩
 have HB2:=hid (HB1.out.trans (hb2.mono HB1.out.size))
 clear c0 c1 c2 c3 c4 e1 KA hb2
 rcases hcase with ⟨hV,rfl⟩ | ⟨hV,n,⟨hM,rfl⟩ | ⟨hO,v,A,rfl,hL,hK⟩⟩
 ·go_wp2_with fail
  go_ret
  exact ⟨HB2.out,.inl ⟨hV,rfl⟩⟩
 ·go_wp2_with fail
  go_ret
  exact ⟨HB2.out,.inr ⟨hV,n,.inl ⟨hM,rfl⟩⟩⟩
 have hn1:n<=2000:=built2 hO
 have hT60:=(valid_parts hV).1
 have KC:=hid (clashes_any (shapes hK) (by omega) (show G.terms.length + 1<=1000 by omega))
 have HO:=hid (And.intro hO hV)
 have HL:=hid hL
 clear hO hV hL hK hT60 hn1
 go_wp2_with fail
 refine KC.out.mono ?_
 rintro e w3 ⟨v3,rfl,hb3,hown⟩
 have HB3:=hid (HB2.out.trans (hb3.mono HB2.out.size))
 have HOW:=hid (ownsT_weaken hown HB2.out.size)
 clear hb3 hown KC
 go_wp2_with fail
 go_ret
 exact ⟨HB3.out,.inr ⟨HO.out.2,n,.inr ⟨HO.out.1,v3,A,rfl,HL.out,HOW.out⟩⟩⟩
def zeroTab:Value:=.agg #[.slice none 0 0,.slice none 0 0,.slice none 0 0]
def nextX (G:GD) (nx:List (List Int)) (i j:Nat):List Int:=(List.range j).map fun (s:Nat)=>goX G nx (i:Int) (-1 - (s:Int))
def TabAt (w:World) (tv:Value) (n m:Nat) (D:Nat->Nat->List It) (Nx:Nat->List Int):Prop:=
 ∃ dv nv mv,tv=.agg #[dv,nv,mv]/\RowsAt w dv n (fun i u=>ItemsAt w u (onlyX (D i) m m))/\RowsAt w nv n (fun i u=>IntsAt w u (Nx i))/\U64s w mv ((List.range n).map fun i=>mayX (D i) m m)
theorem TabAt.below {w w':World} {tv:Value} {n m:Nat} {D:Nat->Nat->List It} {Nx:Nat->List Int} (h:TabAt w tv n m D Nx) (hb:Below w.heap.size w w'):TabAt w' tv n m D Nx:=by
 obtain ⟨dv,nv,mv,rfl,h1,h2,h3⟩:=h
 exact ⟨dv,nv,mv,rfl,RowsAt.below h1 hb fun i u hu=>ItemsAt.below hu hb,RowsAt.below h2 hb fun i u hu=>hu.mono hb,RowAt.mono h3 fun _ _ _ hc=>cell_below hb hc⟩
def BuildTP (G:GD) (w:World) (e:Ending) (w':World):Prop:=
 Below w.heap.size w w'/\((validB G=false/\e=.returned (.tuple #[zeroTab,.int .i64 1]))\/(validB G=true/\∃ n,(BuiltMany G n/\e=.returned (.tuple #[zeroTab,.int .i64 4])) \/
  (BuiltOk G n/\∃ A,LeastA (askX (cxB G n (E0 G) (F0 G))) (places (cxB G n (E0 G) (F0 G)) n) (0,(-1,0)) (bitN 63) A /\
   ((clX (cntS (deedsS G (iterB G n).nx (cxB G n (E0 G) (F0 G)).C A)) (G.terms.length + 1) n ≠ []/\e=.returned (.tuple #[zeroTab,.int .i64 16])) \/
    (clX (cntS (deedsS G (iterB G n).nx (cxB G n (E0 G) (F0 G)).C A)) (G.terms.length + 1) n=[]/\∃ tv,e=.returned (.tuple #[tv,.int .i64 0]) /\
     TabAt w' tv n (G.terms.length + 1) (deedsS G (iterB G n).nx (cxB G n (E0 G) (F0 G)).C A) (fun i=>nextX G (iterB G n).nx i G.sorts.length))))))
def RowsOk (f:Nat->Nat × List Value) (R:List (Value × Nat × List Value)):Prop:=∀ k r,R[k]?=some r->r.2=f k
theorem RowsOk.nil (f:Nat->Nat × List Value):RowsOk f []:=fun k r h=>by simp at h
theorem RowsOk.push {f:Nat->Nat × List Value} {R:List (Value × Nat × List Value)} (h:RowsOk f R) {i:Nat} (hl:R.length=i) (v:Value) {x:Nat × List Value} (hx:x=f i):RowsOk f (R ++ [(v,x)]):=fun k r hr=>by
 by_cases hk:k < R.length
 ·rw [List.getElem?_append_left hk] at hr; exact h k r hr
 ·rw [List.getElem?_append_right (by omega)] at hr
  have h0:k - R.length=0:=by
   have:=(List.getElem?_eq_some_iff.1 hr).1
   simpa using this
  rw [h0] at hr
  obtain rfl:(v,x)=r:=by simpa using hr
  rw [hx]
  show f i=f k
  congr 1
  omega
theorem rows_own {B n:Nat} {w:World} {R:List (Value × Nat × List Value)} {v:Value} {f:Nat->Nat × List Value} {sz:Nat} {p:Nat->Value->Prop} (hq:ownsT w B 1 v n (R.map (·.1))) (hg:(gI B sz R).ok w) (hl:R.length=n) (ho:RowsOk f R) (hp:∀ i u,i < n->ownsT w B sz u (f i).1 (f i).2->p i u):RowsAt w v n p:=by
 have e:(R.map (·.1)).length=n:=by rw [List.length_map,hl]
 rw [<-e] at hq ⊢
 refine RowsAt.of_own hq fun i u hu=>?_
 rw [List.getElem?_map] at hu
 cases hr:R[i]? with
 | none=>rw [hr] at hu; cases hu
 | some r =>
  rw [hr] at hu
  obtain rfl:r.1=u:=Option.some.inj hu
  have hi:=(List.getElem?_eq_some_iff.1 hr).1
  refine hp i _ (by omega) ?_
  rw [<-ho i r hr]
  exact hg r (List.mem_of_getElem? hr)
theorem own_ints {w:World} {B n:Nat} {v:Value} {l:List Int} (h:ownsT w B 1 v n (l.map fun z=>.int .i64 z)) (hn:n=l.length) (hr:∀ x ∈ l,-9223372036854775808<=x/\x<=9223372036854775807):IntsAt w v l:=by
 refine ⟨?_,hr⟩
 subst hn
 obtain ⟨hl,⟨rfl,h0⟩ | ⟨g,off,cap,rfl,_,_,h1,h2,h3,_⟩⟩:=h
 ·exact ⟨none,0,by rw [h0],by omega,fun h=>absurd h (by omega)⟩
 ·refine ⟨_,_,rfl,by unfold maxLen at h2; omega,fun _=>⟨g,off,rfl,fun i hi=>h3 i _ ?_⟩⟩
  rw [List.getElem?_map,geQ hi,gdQ,geQ hi]
  rfl
theorem nextX_more (G:GD) (nx:List (List Int)) (i j:Nat):nextX G nx i (j + 1)=nextX G nx i j ++ [goX G nx (i:Int) (-1 - (j:Int))]:=by
 unfold nextX
 rw [List.range_succ,List.map_append]
 rfl
theorem goX_low {G:GD} {nx:List (List Int)} (hn:NxOk G nx) (hl:nx.length<=100000) (i s:Int):-9223372036854775808<=goX G nx i s/\goX G nx i s<=9223372036854775807:=by
 unfold goX
 split
 ·rename_i h
  split
  ·omega
  ·rename_i p hp
   rw [gdQ]
   cases hx:(nx.getD i.toNat [])[p]? with
   | none=>rw [Option.getD_none]; omega
   | some v =>
    have hm:nx.getD i.toNat [] ∈ nx:=by rw [gdQ,geQ (by omega)]; exact List.getElem_mem _
    have:=(hn _ hm).2 v (List.mem_of_getElem? hx)
    rw [Option.getD_some]
    omega
 ·omega
theorem info43:(Tryz.prog.info? 43).map (fun i=>(i.zero,i.size,i.bytes))=some (some (.slice none 0 0),1,24):=by kernel_rfl
theorem pick8:∀ a,a < 8->∀ b,b < 8->([0,1,2,3,4,5,7,6]:List Nat).getD a 0=([0,1,2,3,4,5,7,6]:List Nat).getD b 0->a=b:=by decide
set_option maxRecDepth 100000 in
set_option maxHeartbeats 16000000 in
theorem BuildT_any {G:GD} {gv:Value} {w:World} {Bt:Nat} (h:Gram w gv G) (ht:Tab Bt w) (hBt:Bt<=w.heap.size):Calls Tryz.prog 38 #[gv] w (BuildTP G w):=by
 have HGr:=hid h
 have HT:=hid ht
 obtain ⟨tv,ov,sv,pv,tf,rv,h⟩:=h
 have hgv:=h.eq
 subst hgv
 obtain ⟨to_,tc,rfl,htn,_⟩:=h.terms
 obtain ⟨so,sc,rfl,hsn,_⟩:=h.sorts
 obtain ⟨T,hT⟩:=nmQ (G.terms.length)
 obtain ⟨S,hS⟩:=nmQ (G.sorts.length)
 have HTL:=hid hT
 have HSL:=hid hS
 rw [hT,hS] at HGr ⊢
 obtain ⟨W1,e1⟩:=nmQ (w.alloc (.cells #[.slice to_ T tc,ov,.slice so S sc,pv,.int .i64 G.start] 27))
 have n1:W1.heap[w.heap.size]?=some (.cells #[.slice to_ T tc,ov,.slice so S sc,pv,.int .i64 G.start] 27 (0,0)):=nbQ e1
 have f1:=foot_add1 (l:=[]) (Foot.empty w w.heap.size (Nat.le_refl _)) e1 n1
 obtain ⟨W2,e2⟩:=nmQ (W1.alloc (.cells #[.slice none 0 0,.slice none 0 0,.slice none 0 0] 96))
 have n2:W2.heap[W1.heap.size]?=some (.cells #[.slice none 0 0,.slice none 0 0,.slice none 0 0] 96 (0,0)):=nbQ e2
 have f2:=foot_add1 f1 e2 n2
 obtain ⟨bR,hbR⟩:=nmQ (W1.heap.size)
 rw [hbR] at n2 f2
 have HBR:=hid hbR
 have HF2:=hid (show Foot w.heap.size w W2 [blkI w.heap.size (.cells #[.slice to_ T tc,ov,.slice so S sc,pv,.int .i64 G.start] 27 (0,0)),blkI bR (.cells #[.slice none 0 0,.slice none 0 0,.slice none 0 0] 96 (0,0))] from f2)
 have HB2:=hid f2.bel
 have HS:=hid (show ∀ w',Below W2.heap.size W2 w'->w'.cell? ⟨w.heap.size,0,none⟩=some (.slice to_ T tc)/\w'.cell? ⟨w.heap.size,1,none⟩=some ov/\w'.cell? ⟨w.heap.size,2,none⟩=some (.slice so S sc)/\w'.cell? ⟨w.heap.size,3,none⟩=some pv/\w'.cell? ⟨w.heap.size,4,none⟩=some (.int .i64 G.start) from fun w' hC=>by
  have n3:w'.heap[w.heap.size]?=some (.cells #[.slice to_ T tc,ov,.slice so S sc,pv,.int .i64 G.start] 27 (0,0)):=(hC.block _ (f2.lt 0 _ rfl _ (by simp [blkI])).2).trans (f2.ok 0 _ rfl)
  exact cells5 n3)
 have HRB:=hid (show ∀ w',Below W2.heap.size W2 w'->w'.heap[bR]?=some (.cells #[.slice none 0 0,.slice none 0 0,.slice none 0 0] 96 (0,0)) from fun w' hC=>(hC.block _ (f2.lt 1 _ rfl _ (by simp [blkI])).2).trans (f2.ok 1 _ rfl))
 have HRL:=hid (show w.heap.size<=bR/\bR < W2.heap.size from f2.lt 1 _ rfl _ (by simp [blkI]))
 obtain ⟨c0,c1,c2,c3,c4⟩:=HS.out W2 (Below.refl _ _)
 have KA:=hid (AllT_any (HGr.out.below HB2.out) (HT.out.on (HB2.out.mono hBt)) (Nat.le_trans hBt HB2.out.size))
 clear h f1 f2 n1 n2 hT hS ht
 go_enter Tryz.func38,Tryz.ntmps38
 go_wp2_with fail
 refine KA.out.mono ?_
 rintro e w3 ⟨hb3,hcase⟩
 have HF3:=hid (HF2.out.below hb3)
 have HC3:=hid hb3
 clear c0 c1 c2 c3 c4 KA hb3 e1 e2 hbR
 rcases hcase with ⟨hV,rfl⟩ | ⟨hV,n,⟨hM,rfl⟩ | ⟨hO,v,A,rfl,hL,hK⟩⟩
 ·have HV:=hid hV
  clear hV
  have xn0:w3.heap[bR]?=some (.cells #[.slice none 0 0,.slice none 0 0,.slice none 0 0] 96 (0,0)):=HF3.out.ok 1 _ rfl
  have xc0:w3.cell? ⟨bR,0,none⟩=some (.slice none 0 0):=coQ xn0 0
  have xf0:=foQ xn0 0
  obtain ⟨z1,xe0⟩:=nmQ (w3.setCell ⟨bR,0,none⟩ (.slice none 0 0))
  have xn1:z1.heap[bR]?=some (.cells #[.slice none 0 0,.slice none 0 0,.slice none 0 0] 96 (0,0)):=hsQ xe0 xn0
  have xc1:z1.cell? ⟨bR,1,none⟩=some (.slice none 0 0):=coQ xn1 1
  have xf1:=foQ xn1 1
  obtain ⟨z2,xe1⟩:=nmQ (z1.setCell ⟨bR,1,none⟩ (.slice none 0 0))
  have xn2:z2.heap[bR]?=some (.cells #[.slice none 0 0,.slice none 0 0,.slice none 0 0] 96 (0,0)):=hsQ xe1 xn1
  have xc2:z2.cell? ⟨bR,2,none⟩=some (.slice none 0 0):=coQ xn2 2
  have xf2:=foQ xn2 2
  obtain ⟨z3,xe2⟩:=nmQ (z2.setCell ⟨bR,2,none⟩ (.slice none 0 0))
  have xn3:z3.heap[bR]?=some (.cells #[.slice none 0 0,.slice none 0 0,.slice none 0 0] 96 (0,0)):=hsQ xe2 xn2
  have q1:=foot_set (l:=[blkI w.heap.size (.cells #[.slice to_ T tc,ov,.slice so S sc,pv,.int .i64 G.start] 27 (0,0))]) (k:=0) (i:=0) (v:=.slice none 0 0) HF3.out rfl
  rw [xe0] at q1
  have q2:=foot_set (l:=[blkI w.heap.size (.cells #[.slice to_ T tc,ov,.slice so S sc,pv,.int .i64 G.start] 27 (0,0))]) (m:=[blkI bR (.cells #[.slice none 0 0,.slice none 0 0,.slice none 0 0] 96 (0,0))]) (k:=0) (i:=1) (v:=.slice none 0 0) q1 rfl
  rw [xe1] at q2
  have q3:=foot_set (l:=[blkI w.heap.size (.cells #[.slice to_ T tc,ov,.slice so S sc,pv,.int .i64 G.start] 27 (0,0))]) (m:=[blkI bR (.cells #[.slice none 0 0,.slice none 0 0,.slice none 0 0] 96 (0,0))]) (k:=0) (i:=2) (v:=.slice none 0 0) q2 rfl
  rw [xe2] at q3
  have HFIN:=hid q3.bel
  have HNB:=hid xn3
  clear q1 q2 q3 xn0 xn1 xn2 xn3
  go_wp2_with fail
  refine bodyPost_ret (v:=.tuple #[zeroTab,.int .i64 1]) (results96 rfl _ _ bR _ _ _ 1 rfl rfl HNB.out) rfl ?_
  exact ⟨HFIN.out,.inl ⟨HV.out,rfl⟩⟩
 ·have HV:=hid (And.intro hV hM)
  clear hV hM
  have xn0:w3.heap[bR]?=some (.cells #[.slice none 0 0,.slice none 0 0,.slice none 0 0] 96 (0,0)):=HF3.out.ok 1 _ rfl
  have xc0:w3.cell? ⟨bR,0,none⟩=some (.slice none 0 0):=coQ xn0 0
  have xf0:=foQ xn0 0
  obtain ⟨z1,xe0⟩:=nmQ (w3.setCell ⟨bR,0,none⟩ (.slice none 0 0))
  have xn1:z1.heap[bR]?=some (.cells #[.slice none 0 0,.slice none 0 0,.slice none 0 0] 96 (0,0)):=hsQ xe0 xn0
  have xc1:z1.cell? ⟨bR,1,none⟩=some (.slice none 0 0):=coQ xn1 1
  have xf1:=foQ xn1 1
  obtain ⟨z2,xe1⟩:=nmQ (z1.setCell ⟨bR,1,none⟩ (.slice none 0 0))
  have xn2:z2.heap[bR]?=some (.cells #[.slice none 0 0,.slice none 0 0,.slice none 0 0] 96 (0,0)):=hsQ xe1 xn1
  have xc2:z2.cell? ⟨bR,2,none⟩=some (.slice none 0 0):=coQ xn2 2
  have xf2:=foQ xn2 2
  obtain ⟨z3,xe2⟩:=nmQ (z2.setCell ⟨bR,2,none⟩ (.slice none 0 0))
  have xn3:z3.heap[bR]?=some (.cells #[.slice none 0 0,.slice none 0 0,.slice none 0 0] 96 (0,0)):=hsQ xe2 xn2
  have q1:=foot_set (l:=[blkI w.heap.size (.cells #[.slice to_ T tc,ov,.slice so S sc,pv,.int .i64 G.start] 27 (0,0))]) (k:=0) (i:=0) (v:=.slice none 0 0) HF3.out rfl
  rw [xe0] at q1
  have q2:=foot_set (l:=[blkI w.heap.size (.cells #[.slice to_ T tc,ov,.slice so S sc,pv,.int .i64 G.start] 27 (0,0))]) (m:=[blkI bR (.cells #[.slice none 0 0,.slice none 0 0,.slice none 0 0] 96 (0,0))]) (k:=0) (i:=1) (v:=.slice none 0 0) q1 rfl
  rw [xe1] at q2
  have q3:=foot_set (l:=[blkI w.heap.size (.cells #[.slice to_ T tc,ov,.slice so S sc,pv,.int .i64 G.start] 27 (0,0))]) (m:=[blkI bR (.cells #[.slice none 0 0,.slice none 0 0,.slice none 0 0] 96 (0,0))]) (k:=0) (i:=2) (v:=.slice none 0 0) q2 rfl
  rw [xe2] at q3
  have HFIN:=hid q3.bel
  have HNB:=hid xn3
  clear q1 q2 q3 xn0 xn1 xn2 xn3
  go_wp2_with fail
  refine bodyPost_ret (v:=.tuple #[zeroTab,.int .i64 4]) (results96 rfl _ _ bR _ _ _ 4 rfl rfl HNB.out) rfl ?_
  exact ⟨HFIN.out,.inr ⟨HV.out.1,n,.inl ⟨HV.out.2,rfl⟩⟩⟩
 have hn1:n<=2000:=built2 hO
 have hT60:=(valid_parts hV).1
 have hS60:=(valid_parts hV).2.1
 have hP1:=valid_start hV
 rw [HSL.out] at hS60 hP1
 rw [HTL.out] at hT60 hK
 obtain ⟨D,hD⟩:=nmQ (deedsS G (iterB G n).nx (cxB G n (E0 G) (F0 G)).C A)
 have HDD:=hid hD
 rw [hD] at hK
 have KC:=hid (clashes_any (shapes hK) (by omega) (show T + 1<=1000 by omega))
 have HO:=hid (And.intro hO hV)
 have HL:=hid hL
 have HK:=hid hK
 have HN:=hid (show n<=2000/\T<=60/\S<=60/\0 < S from ⟨hn1,hT60,hS60,by omega⟩)
 obtain ⟨vo,vc,rfl⟩:∃ vo vc,v=.slice vo n vc:=by
  obtain ⟨a,c,e,_⟩:=hK
  exact ⟨a,c,e⟩
 clear hO hV hL hK hT60 hn1 hD hP1 hS60
 go_wp2_with fail
 refine KC.out.mono ?_
 rintro e w4 ⟨v4,rfl,hb4,hown⟩
 obtain ⟨CL,hCL⟩:=nmQ (clX (cntS D) (T + 1) n)
 have HCL:=hid hCL
 rw [hCL] at hown
 obtain ⟨co,cc,rfl⟩:=hown.shape
 have HF4:=hid (HF3.out.below hb4)
 have HC4:=hid (HC3.out.trans (hb4.mono HC3.out.size))
 have HK4:=hid (states_below HK.out hb4)
 clear hb4 hown KC hCL
 by_cases hcl:0 < CL.length
 ·have d0:(0:Int) < (CL.length:Int):=by omega
  have d1:decide ((0:Int) < (CL.length:Int))=true:=decide_eq_true d0
  have d2:decide (0 < CL.length)=true:=decide_eq_true hcl
  have HNE:=hid (show CL ≠ [] from fun e=>by rw [e] at hcl; exact absurd hcl (by decide))
  clear hcl
  have xn0:w4.heap[bR]?=some (.cells #[.slice none 0 0,.slice none 0 0,.slice none 0 0] 96 (0,0)):=HF4.out.ok 1 _ rfl
  have xc0:w4.cell? ⟨bR,0,none⟩=some (.slice none 0 0):=coQ xn0 0
  have xf0:=foQ xn0 0
  obtain ⟨z1,xe0⟩:=nmQ (w4.setCell ⟨bR,0,none⟩ (.slice none 0 0))
  have xn1:z1.heap[bR]?=some (.cells #[.slice none 0 0,.slice none 0 0,.slice none 0 0] 96 (0,0)):=hsQ xe0 xn0
  have xc1:z1.cell? ⟨bR,1,none⟩=some (.slice none 0 0):=coQ xn1 1
  have xf1:=foQ xn1 1
  obtain ⟨z2,xe1⟩:=nmQ (z1.setCell ⟨bR,1,none⟩ (.slice none 0 0))
  have xn2:z2.heap[bR]?=some (.cells #[.slice none 0 0,.slice none 0 0,.slice none 0 0] 96 (0,0)):=hsQ xe1 xn1
  have xc2:z2.cell? ⟨bR,2,none⟩=some (.slice none 0 0):=coQ xn2 2
  have xf2:=foQ xn2 2
  obtain ⟨z3,xe2⟩:=nmQ (z2.setCell ⟨bR,2,none⟩ (.slice none 0 0))
  have xn3:z3.heap[bR]?=some (.cells #[.slice none 0 0,.slice none 0 0,.slice none 0 0] 96 (0,0)):=hsQ xe2 xn2
  have q1:=foot_set (l:=[blkI w.heap.size (.cells #[.slice to_ T tc,ov,.slice so S sc,pv,.int .i64 G.start] 27 (0,0))]) (k:=0) (i:=0) (v:=.slice none 0 0) HF4.out rfl
  rw [xe0] at q1
  have q2:=foot_set (l:=[blkI w.heap.size (.cells #[.slice to_ T tc,ov,.slice so S sc,pv,.int .i64 G.start] 27 (0,0))]) (m:=[blkI bR (.cells #[.slice none 0 0,.slice none 0 0,.slice none 0 0] 96 (0,0))]) (k:=0) (i:=1) (v:=.slice none 0 0) q1 rfl
  rw [xe1] at q2
  have q3:=foot_set (l:=[blkI w.heap.size (.cells #[.slice to_ T tc,ov,.slice so S sc,pv,.int .i64 G.start] 27 (0,0))]) (m:=[blkI bR (.cells #[.slice none 0 0,.slice none 0 0,.slice none 0 0] 96 (0,0))]) (k:=0) (i:=2) (v:=.slice none 0 0) q2 rfl
  rw [xe2] at q3
  have HFIN:=hid q3.bel
  have HNB:=hid xn3
  clear q1 q2 q3 xn0 xn1 xn2 xn3
  go_wp2_with fail
  refine bodyPost_ret (v:=.tuple #[zeroTab,.int .i64 16]) (results96 rfl _ _ bR _ _ _ 16 rfl rfl HNB.out) rfl ?_
  refine ⟨HFIN.out,.inr ⟨HO.out.2,n,.inr ⟨HO.out.1,A,HL.out,.inl ⟨?_,rfl⟩⟩⟩⟩
  rw [HDD.out,HTL.out,HCL.out]
  exact HNE.out
 have d0:¬ (0:Int) < (CL.length:Int):=by omega
 have d1:decide ((0:Int) < (CL.length:Int))=false:=decide_eq_false d0
 have d2:decide (0 < CL.length)=false:=decide_eq_false hcl
 have HNE:=hid (show CL=[] from List.eq_nil_of_length_eq_zero (by omega))
 obtain ⟨c0,c1,c2,c3,c4⟩:=HS.out w4 HC4.out
 have KB:=hid (Build_any (HGr.out.below HF4.out.bel) (HT.out.on (HF4.out.bel.mono hBt)) (Nat.le_trans hBt HF4.out.bel.size))
 clear hcl
 go_wp2_with fail
 refine KB.out.mono ?_
 rintro e w5 ⟨hb5,hcase⟩
 have HF5:=hid (HF4.out.below hb5)
 have HC5:=hid (HC4.out.trans (hb5.mono HC4.out.size))
 have HK5:=hid (states_below HK4.out hb5)
 clear c0 c1 c2 c3 c4 KB hb5
 rcases hcase with ⟨hV,rfl⟩ | ⟨hV,m,⟨hM,rfl⟩ | ⟨hO,av,rfl,hau⟩⟩
 ·exact absurd (hV.symm.trans HO.out.2) (by decide)
 ·exact (X14.Built.not HO.out.1 hM).elim
 obtain rfl:=X14.Built.one hO HO.out.1
 obtain ⟨kv,nv0,rfl,hk1,hk2⟩:=hau
 obtain ⟨ko,kl,kc,rfl⟩:∃ ko kl kc,kv=.slice ko kl kc:=by
  obtain ⟨o,c,e,_⟩:=hk1.len
  exact ⟨_,_,_,e⟩
 obtain ⟨no,nl,nc,rfl⟩:∃ no nl nc,nv0=.slice no nl nc:=by
  obtain ⟨o,c,e,_⟩:=hk2.len
  exact ⟨_,_,_,e⟩
 have HAU:=hid (show AutAt w5 (.agg #[.slice ko kl kc,.slice no nl nc]) (iterB G m).ker (iterB G m).nx from ⟨_,_,rfl,hk1,hk2⟩)
 have HB5:=hid HF5.out.bel
 obtain ⟨W6,e6⟩:=nmQ (w5.alloc (.cells #[.slice none 0 0,.slice none 0 0] 55))
 have n6:W6.heap[w5.heap.size]?=some (.cells #[.slice none 0 0,.slice none 0 0] 55 (0,0)):=nbQ e6
 have f6:=foot_add1 (l:=[]) (Foot.empty w5 w5.heap.size (Nat.le_refl _)) e6 n6
 have vn0:W6.heap[w5.heap.size]?=some (.cells #[.slice none 0 0,.slice none 0 0] 55 (0,0)):=n6
 have vc0:W6.cell? ⟨w5.heap.size,0,none⟩=some (.slice none 0 0):=coQ vn0 0
 have vf0:=foQ vn0 0
 obtain ⟨u1,ve0⟩:=nmQ (W6.setCell ⟨w5.heap.size,0,none⟩ (.slice ko kl kc))
 have vn1:u1.heap[w5.heap.size]?=some (.cells #[.slice ko kl kc,.slice none 0 0] 55 (0,0)):=hsQ ve0 vn0
 have vc1:u1.cell? ⟨w5.heap.size,1,none⟩=some (.slice none 0 0):=coQ vn1 1
 have vf1:=foQ vn1 1
 obtain ⟨u2,ve1⟩:=nmQ (u1.setCell ⟨w5.heap.size,1,none⟩ (.slice no nl nc))
 have vn2:u2.heap[w5.heap.size]?=some (.cells #[.slice ko kl kc,.slice no nl nc] 55 (0,0)):=hsQ ve1 vn1
 have f7:=foot_set (l:=[]) (k:=0) (i:=0) (v:=.slice ko kl kc) f6 rfl
 rw [ve0] at f7
 have f8:=foot_set (l:=[]) (m:=[blkI w5.heap.size (.cells #[.slice ko kl kc,.slice none 0 0] 55 (0,0))]) (k:=0) (i:=1) (v:=.slice no nl nc) f7 rfl
 rw [ve1] at f8
 obtain ⟨W9,e9⟩:=nmQ (u2.alloc (.cells #[.slice none 0 0,.slice none 0 0,.slice none 0 0] 96))
 have n9:W9.heap[u2.heap.size]?=some (.cells #[.slice none 0 0,.slice none 0 0,.slice none 0 0] 96 (0,0)):=nbQ e9
 have f9:=foot_add1 f8 e9 n9
 have hF:Foot w5.heap.size w5 W9 [blkI w5.heap.size (.cells #[.slice ko kl kc,.slice no nl nc] 55 (0,0)),blkI u2.heap.size (.cells #[(.slice none 0 0),(.slice none 0 0),(.slice none 0 0)] 96 (0,0)),gI w5.heap.size 2 [],queI w5.heap.size 1 (.slice none 0 0) 0 [],queI w5.heap.size 1 (.slice none 0 0) 0 [],queI w5.heap.size 1 (.slice none 0 0) 0 [],gI w5.heap.size 1 []]:=foot_gnew (foot_newrow (foot_newrow (foot_newrow (foot_gnew f9))))
 have HFU:=hid hF
 clear hk1 hk2 f6 f7 f8 f9 n6 n9 hF vn0 vn1 vn2
 go_wp2_with fail
 clear vc0 vf0 vc1 vf1 ve0 ve1 e6 e9 d0 d1 d2
 generalize u2.heap.size=bT at *
 have HF:=HFU
 clear HFU
 go_loopw [39] (fun t39 wr=>∃ (i:Nat) (dv nv mv:Value) (R NR:List (Value × Nat × List Value)),i<=m/\t39=.int .i64 (i:Int)/\Hid (R.length=i/\NR.length=i/\RowsOk (fun k=>(T + 1,dC (onlyX (D k) (T + 1) (T + 1)))) R/\RowsOk (fun k=>(S,(nextX G (iterB G m).nx k S).map fun z=>.int .i64 z)) NR)/\Hid (Foot w5.heap.size w5 wr [blkI w5.heap.size (.cells #[.slice ko kl kc,.slice no nl nc] 55 (0,0)),blkI bT (.cells #[dv,nv,mv] 96 (0,0)),gI w5.heap.size 2 R,queI w5.heap.size 1 dv i (R.map (·.1)),queI w5.heap.size 1 nv i (NR.map (·.1)),queI w5.heap.size 1 mv i ((List.range i).map fun j=>S13.u64 (mayX (D j) (T + 1) (T + 1))),gI w5.heap.size 1 NR])) (fun t39 _=>m - (RowKit.intOf t39).toNat)
 case atStart=>exact ⟨0,_,_,_,[],[],Nat.zero_le _,rfl,hid ⟨rfl,rfl,RowsOk.nil _,RowsOk.nil _⟩,HF⟩
 case round =>
  clear HF
  obtain ⟨i,dv,nv,mv,R,NR,hiN,rfl,HR,HF⟩:=hrel
  by_cases hlt:i < m
  ·have j1:(i:Int) < (m:Int):=by omega
   have j0:(0:Int)<=(i:Int):=by omega
   obtain ⟨lb,lf,u,rfl,u1,u2⟩:=HK5.out.at_ hlt
   have HXr:=hid HF.out.bel
   have r0:=cell_below HXr.out u1
   have HU:=hid (RowsAt.below u2 HXr.out fun k u' h4=>ItemsAt.below h4 HXr.out)
   obtain ⟨uo,uc,rfl,_⟩:=u2.len
   have KO:=hid (only_any HU.out (by omega) (by have:=HN.out; omega))
   obtain ⟨MY,hMY⟩:=nmQ (mayX (D i) (T + 1) (T + 1))
   have HMY:=hid hMY
   clear u1 u2 hMY
   go_wp2_with fail
   refine KO.out.mono ?_
   rintro e w6 ⟨rv,rfl,hb6,hrv⟩
   rw [HMY.out]
   clear r0 KO
   obtain ⟨ro,rc,rfl⟩:=hrv.shape
   have HF6:=hid (show Foot w5.heap.size w5 w6 [blkI w5.heap.size (.cells #[.slice ko kl kc,.slice no nl nc] 55 (0,0)),blkI bT (.cells #[dv,nv,mv] 96 (0,0)),gI w5.heap.size 2 (R ++ [(Value.slice ro (T + 1) rc,T + 1,dC (onlyX (D i) (T + 1) (T + 1)))]),queI w5.heap.size 1 dv i (R.map (·.1)),queI w5.heap.size 1 nv i (NR.map (·.1)),queI w5.heap.size 1 mv i ((List.range i).map fun j=>S13.u64 (mayX (D j) (T + 1) (T + 1))),gI w5.heap.size 1 NR] from foot_gadd (l:=[]) (k:=2) HF.out rfl hb6 (ownsT_weaken hrv HF.out.bel.size) (fun b hb=>ownsT_range hrv b hb))
   obtain ⟨wa,ea⟩:=nmQ (w6.alloc (.cells (Array.replicate S (.int .i64 0)) 3))
   have hmk:=made_next S (by have:=HN.out; omega) w6
   rw [ea] at hmk
   have na:wa.heap[w6.heap.size]?=some (.cells (Array.replicate S (.int .i64 0)) 3 (0,0)):=nbQ ea
   have hba:Below w6.heap.size w6 wa:=baQ ea
   have f7:=HF6.out.add (queI w5.heap.size 1 (.slice (some ⟨w6.heap.size,0,none⟩) 0 S) 0 []) hba (own_next HF6.out.bel.size (by have:=HN.out; omega) na) (fun b hb=>by
    obtain rfl:b=w6.heap.size:=by
     have:b ∈ (Value.slice (some ⟨w6.heap.size,0,none⟩) 0 S).ownBlock.toList:=hb
     simpa [Value.ownBlock] using this
    exact ⟨Nat.le_refl _,(ltQ na)⟩)
   have HFa:=hid (show Foot w5.heap.size w5 wa [blkI w5.heap.size (.cells #[.slice ko kl kc,.slice no nl nc] 55 (0,0)),blkI bT (.cells #[dv,nv,mv] 96 (0,0)),gI w5.heap.size 2 (R ++ [(Value.slice ro (T + 1) rc,T + 1,dC (onlyX (D i) (T + 1) (T + 1)))]),queI w5.heap.size 1 dv i (R.map (·.1)),queI w5.heap.size 1 nv i (NR.map (·.1)),queI w5.heap.size 1 mv i ((List.range i).map fun j=>S13.u64 (mayX (D j) (T + 1) (T + 1))),gI w5.heap.size 1 NR,queI w5.heap.size 1 (.slice (some ⟨w6.heap.size,0,none⟩) 0 S) 0 []] from f7)
   obtain ⟨c0,c1,c2,c3,c4⟩:=HS.out w6 (HC5.out.trans (HF6.out.bel.mono HC5.out.size))
   obtain ⟨a0,a1,a2,a3,a4⟩:=HS.out wa (HC5.out.trans (HFa.out.bel.mono HC5.out.size))
   clear hb6 hrv f7 na hba HF
   go_wp2_with fail
   clear c0 c1 c2 c3 c4 a0 a1 a2 a3 a4 hmk ea HF6
   generalize w6.heap.size=bX at *
   go_loopw [12,56] (fun t12 t56 wr=>∃ (s:Nat) (xv:Value),s<=S/\xv=t12/\t56=.int .i64 (s:Int)/\Hid (Foot w5.heap.size w5 wr [blkI w5.heap.size (.cells #[.slice ko kl kc,.slice no nl nc] 55 (0,0)),blkI bT (.cells #[dv,nv,mv] 96 (0,0)),gI w5.heap.size 2 (R ++ [(Value.slice ro (T + 1) rc,T + 1,dC (onlyX (D i) (T + 1) (T + 1)))]),queI w5.heap.size 1 dv i (R.map (·.1)),queI w5.heap.size 1 nv i (NR.map (·.1)),queI w5.heap.size 1 mv i ((List.range i).map fun j=>S13.u64 (mayX (D j) (T + 1) (T + 1))),gI w5.heap.size 1 NR,queI w5.heap.size 1 xv s ((nextX G (iterB G m).nx i s).map fun z=>Value.int .i64 z)])) (fun _ t56 _=>S - (RowKit.intOf t56).toNat)
   case atStart=>exact ⟨0,_,Nat.zero_le _,rfl,rfl,HFa⟩
   case round =>
    clear HFa
    obtain ⟨s,xv,hsS,rfl,rfl,HF⟩:=hrel
    by_cases hsl:s < S
    ·have k1:(s:Int) < (S:Int):=by omega
     have k0:(0:Int)<=(s:Int):=by omega
     have k6:(s:Int)<=60:=by have:=HN.out; omega
     obtain ⟨xo,xc,rfl⟩:=(show ownsT wr w5.heap.size 1 xv s _ from HF.out.ok 7 _ rfl).shape
     obtain ⟨c0,c1,c2,c3,c4⟩:=HS.out wr (HC5.out.trans (HF.out.bel.mono HC5.out.size))
     have nA:wr.heap[w5.heap.size]?=some (.cells #[.slice ko kl kc,.slice no nl nc] 55 (0,0)):=HF.out.ok 0 _ rfl
     have a0:wr.cell? ⟨w5.heap.size,0,none⟩=some (.slice ko kl kc):=coQ nA 0
     have a1:wr.cell? ⟨w5.heap.size,1,none⟩=some (.slice no nl nc):=coQ nA 1
     have KG:=hid (Go_any (HGr.out.below (HB5.out.trans (HF.out.bel.mono HB5.out.size))) (HAU.out.below HF.out.bel) (NxOk.built HO.out.1) (i:Int) (-1 - (s:Int)) (by omega) (by omega))
     obtain ⟨gz,hgz⟩:=nmQ (goX G (iterB G m).nx (i:Int) (-1 - (s:Int)))
     have HGZ:=hid hgz
     clear nA hgz
     go_wp2_with fail
     refine KG.out.mono ?_
     rintro e w7 ⟨rfl,hb7⟩
     rw [HGZ.out]
     have HF7:=hid (HF.out.below hb7)
     have HS12:=hid (show s<=1000000000000 from by omega)
     clear c0 c1 c2 c3 c4 a0 a1 KG hb7 HF
     obtain ⟨wz,ez⟩:=nmQ (w7.alloc (.cells #[.int .i64 gz] 3))
     have nqwz:wz.heap[w7.heap.size]?=some (.cells #[.int .i64 gz] 3 (0,0)):=nbQ ez
     have HFqwz:=hid (HF7.out.below (show Below w7.heap.size w7 wz by exact baQ ez))
     have HCQwz:=hid (show ∀ j u,([.int .i64 gz]:List Value)[j]?=some u->wz.cell? ⟨w7.heap.size,j,none⟩=some u from fun j u hi=>by
      rw [coQ nqwz,<-hi,<-List.getElem?_toArray])
     have HOQwz:=hid (show ∀ q ∈ ([.int .i64 gz]:List Value),q.oneCell'=true from fun q hq=>by rw [List.mem_singleton.1 hq]; rfl)
     have HBqwz:=hid (show w5.heap.size<=wz.heap.size from Nat.le_trans HFqwz.out.le HFqwz.out.bel.size)
     have HOWwz:=hid (show ownsT wz w5.heap.size 1 (.slice xo s xc) s ((nextX G (iterB G m).nx i s).map fun z=>Value.int .i64 z) from HFqwz.out.ok 7 _ rfl)
     clear nqwz
     go_wp2_with (refine wpList_push_T rfl (.tmp 59) (.tmp 66) 43 3 rfl (.int .i64 0) 1 8 Tryz.underlying43 info3 rfl (by decide) (.slice xo s xc) s ((nextX G (iterB G m).nx i s).map fun z=>Value.int .i64 z) rfl HOWwz.out w7.heap.size rfl [.int .i64 gz] rfl HCQwz.out HOQwz.out HS12.out HBqwz.out ?_)
     intro ao2 c8 w8 hown hg8 hat
     have h8:=HFqwz.out.push_que 7 rfl hown hg8 hat
     clear hown hg8 hat ez
     have HF8:=hid (show Foot w5.heap.size w5 w8 [blkI w5.heap.size (.cells #[.slice ko kl kc,.slice no nl nc] 55 (0,0)),blkI bT (.cells #[dv,nv,mv] 96 (0,0)),gI w5.heap.size 2 (R ++ [(Value.slice ro (T + 1) rc,T + 1,dC (onlyX (D i) (T + 1) (T + 1)))]),queI w5.heap.size 1 dv i (R.map (·.1)),queI w5.heap.size 1 nv i (NR.map (·.1)),queI w5.heap.size 1 mv i ((List.range i).map fun j=>S13.u64 (mayX (D j) (T + 1) (T + 1))),gI w5.heap.size 1 NR,queI w5.heap.size 1 (.slice ao2 (s + 1) c8) (s + 1) ((nextX G (iterB G m).nx i (s + 1)).map fun z=>Value.int .i64 z)] from by
      rw [nextX_more,List.map_append,HGZ.out]
      exact h8)
     clear h8
     go_wp2_with fail
     refine ⟨⟨s + 1,_,by omega,rfl,rfl,HF8⟩,?_⟩
     show S - ((s:Int) + 1).toNat < S - ((s:Int)).toNat
     omega
    ·have k1:¬ (s:Int) < (S:Int):=by omega
     obtain rfl:s=S:=by omega
     obtain ⟨xo,xc,rfl⟩:=(show ownsT wr w5.heap.size 1 xv s _ from HF.out.ok 7 _ rfl).shape
     obtain ⟨do_,dc,rfl⟩:=(show ownsT wr w5.heap.size 1 dv i _ from HF.out.ok 3 _ rfl).shape
     obtain ⟨no2,nc2,rfl⟩:=(show ownsT wr w5.heap.size 1 nv i _ from HF.out.ok 4 _ rfl).shape
     obtain ⟨mo,mc,rfl⟩:=(show ownsT wr w5.heap.size 1 mv i _ from HF.out.ok 5 _ rfl).shape
     have HI12:=hid (show i<=1000000000000 from by have:=HN.out; omega)
     have nT:wr.heap[bT]?=some (.cells #[.slice do_ i dc,.slice no2 i nc2,.slice mo i mc] 96 (0,0)):=HF.out.ok 1 _ rfl
     have t0:wr.cell? ⟨bT,0,none⟩=some (.slice do_ i dc):=coQ nT 0
     clear nT
     obtain ⟨wq1,eq1⟩:=nmQ (wr.alloc (.cells #[.slice ro (T + 1) rc] 87))
     have nqwq1:wq1.heap[wr.heap.size]?=some (.cells #[.slice ro (T + 1) rc] 87 (0,0)):=nbQ eq1
     have HFqwq1:=hid (HF.out.below (show Below wr.heap.size wr wq1 by exact baQ eq1))
     have HCQwq1:=hid (show ∀ j u,([.slice ro (T + 1) rc]:List Value)[j]?=some u->wq1.cell? ⟨wr.heap.size,j,none⟩=some u from fun j u hi=>by
      rw [coQ nqwq1,<-hi,<-List.getElem?_toArray])
     have HOQwq1:=hid (show ∀ q ∈ ([.slice ro (T + 1) rc]:List Value),q.oneCell'=true from fun q hq=>by rw [List.mem_singleton.1 hq]; rfl)
     have HBqwq1:=hid (show w5.heap.size<=wq1.heap.size from Nat.le_trans HFqwq1.out.le HFqwq1.out.bel.size)
     have HOWwq1:=hid (show ownsT wq1 w5.heap.size 1 (.slice do_ i dc) i (R.map (·.1)) from HFqwq1.out.ok 3 _ rfl)
     clear nqwq1
     clear HF
     go_wp2_with (refine wpList_push_T rfl (.tmp 70) (.tmp 72) 85 87 rfl (.slice none 0 0) 1 24 Tryz.underlying85 info87 rfl (by decide) (.slice do_ i dc) i (R.map (·.1)) rfl HOWwq1.out wr.heap.size rfl [.slice ro (T + 1) rc] rfl HCQwq1.out HOQwq1.out HI12.out HBqwq1.out ?_)
     intro ao8 c8 w8 hown hg8 hat
     have h8:=HFqwq1.out.push_que 3 rfl hown hg8 hat
     clear hown hg8 hat eq1
     have nT:w8.heap[bT]?=some (.cells #[.slice do_ i dc,.slice no2 i nc2,.slice mo i mc] 96 (0,0)):=h8.ok 1 _ rfl
     have y0:w8.cell? ⟨bT,0,none⟩=some (.slice do_ i dc):=coQ nT 0
     have yf0:=foQ nT 0
     obtain ⟨w9,e9⟩:=nmQ (w8.setCell ⟨bT,0,none⟩ (.slice ao8 (i + 1) c8))
     have h9:=foot_set (l:=[]) (k:=1) (i:=0) (v:=.slice ao8 (i + 1) c8) h8 rfl
     rw [e9] at h9
     have HF9:=hid (show Foot w5.heap.size w5 w9 [blkI w5.heap.size (.cells #[.slice ko kl kc,.slice no nl nc] 55 (0,0)),blkI bT (.cells #[(.slice ao8 (i + 1) c8),(.slice no2 i nc2),(.slice mo i mc)] 96 (0,0)),gI w5.heap.size 2 (R ++ [(Value.slice ro (T + 1) rc,T + 1,dC (onlyX (D i) (T + 1) (T + 1)))]),queI w5.heap.size 1 (.slice ao8 (i + 1) c8) (i + 1) (R.map (·.1) ++ [.slice ro (T + 1) rc]),queI w5.heap.size 1 (.slice no2 i nc2) i (NR.map (·.1)),queI w5.heap.size 1 (.slice mo i mc) i ((List.range i).map fun j=>S13.u64 (mayX (D j) (T + 1) (T + 1))),gI w5.heap.size 1 NR,queI w5.heap.size 1 (.slice xo s xc) s ((nextX G (iterB G m).nx i s).map fun z=>Value.int .i64 z)] from h9)
     have nT:w9.heap[bT]?=some (.cells #[.slice ao8 (i + 1) c8,.slice no2 i nc2,.slice mo i mc] 96 (0,0)):=h9.ok 1 _ rfl
     have t2:w9.cell? ⟨bT,2,none⟩=some (.slice mo i mc):=coQ nT 2
     clear h8 h9 nT
     obtain ⟨wq2,eq2⟩:=nmQ (w9.alloc (.cells #[S13.u64 MY] 69))
     have nqwq2:wq2.heap[w9.heap.size]?=some (.cells #[S13.u64 MY] 69 (0,0)):=nbQ eq2
     have HFqwq2:=hid (HF9.out.below (show Below w9.heap.size w9 wq2 by exact baQ eq2))
     have HCQwq2:=hid (show ∀ j u,([S13.u64 MY]:List Value)[j]?=some u->wq2.cell? ⟨w9.heap.size,j,none⟩=some u from fun j u hi=>by
      rw [coQ nqwq2,<-hi,<-List.getElem?_toArray])
     have HOQwq2:=hid (show ∀ q ∈ ([S13.u64 MY]:List Value),q.oneCell'=true from fun q hq=>by rw [List.mem_singleton.1 hq]; rfl)
     have HBqwq2:=hid (show w5.heap.size<=wq2.heap.size from Nat.le_trans HFqwq2.out.le HFqwq2.out.bel.size)
     have HOWwq2:=hid (show ownsT wq2 w5.heap.size 1 (.slice mo i mc) i ((List.range i).map fun j=>S13.u64 (mayX (D j) (T + 1) (T + 1))) from HFqwq2.out.ok 5 _ rfl)
     clear nqwq2
     clear HF9 t0
     go_wp2_with (refine wpList_push_T rfl (.tmp 76) (.tmp 78) 46 69 rfl (.int .u64 0) 1 8 Tryz.underlying46 info69 rfl (by decide) (.slice mo i mc) i ((List.range i).map fun j=>S13.u64 (mayX (D j) (T + 1) (T + 1))) rfl HOWwq2.out w9.heap.size rfl [S13.u64 MY] rfl HCQwq2.out HOQwq2.out HI12.out HBqwq2.out ?_)
     intro ao10 c10 w10 hown hg8 hat
     have h8:=HFqwq2.out.push_que 5 rfl hown hg8 hat
     clear hown hg8 hat eq2
     have nT:w10.heap[bT]?=some (.cells #[.slice ao8 (i + 1) c8,.slice no2 i nc2,.slice mo i mc] 96 (0,0)):=h8.ok 1 _ rfl
     have y2:w10.cell? ⟨bT,2,none⟩=some (.slice mo i mc):=coQ nT 2
     have yf2:=foQ nT 2
     obtain ⟨w11,e11⟩:=nmQ (w10.setCell ⟨bT,2,none⟩ (.slice ao10 (i + 1) c10))
     have h9:=foot_set (l:=[]) (k:=1) (i:=2) (v:=.slice ao10 (i + 1) c10) h8 rfl
     rw [e11] at h9
     have HF11:=hid (show Foot w5.heap.size w5 w11 [blkI w5.heap.size (.cells #[.slice ko kl kc,.slice no nl nc] 55 (0,0)),blkI bT (.cells #[(.slice ao8 (i + 1) c8),(.slice no2 i nc2),(.slice ao10 (i + 1) c10)] 96 (0,0)),gI w5.heap.size 2 (R ++ [(Value.slice ro (T + 1) rc,T + 1,dC (onlyX (D i) (T + 1) (T + 1)))]),queI w5.heap.size 1 (.slice ao8 (i + 1) c8) (i + 1) (R.map (·.1) ++ [.slice ro (T + 1) rc]),queI w5.heap.size 1 (.slice no2 i nc2) i (NR.map (·.1)),queI w5.heap.size 1 (.slice ao10 (i + 1) c10) (i + 1) (((List.range i).map fun j=>S13.u64 (mayX (D j) (T + 1) (T + 1))) ++ [S13.u64 MY]),gI w5.heap.size 1 NR,queI w5.heap.size 1 (.slice xo s xc) s ((nextX G (iterB G m).nx i s).map fun z=>Value.int .i64 z)] from h9)
     have nT:w11.heap[bT]?=some (.cells #[.slice ao8 (i + 1) c8,.slice no2 i nc2,.slice ao10 (i + 1) c10] 96 (0,0)):=h9.ok 1 _ rfl
     have t1:w11.cell? ⟨bT,1,none⟩=some (.slice no2 i nc2):=coQ nT 1
     clear h8 h9 nT y0 yf0 e9 t2
     obtain ⟨wq3,eq3⟩:=nmQ (w11.alloc (.cells #[.slice xo s xc] 43))
     have nqwq3:wq3.heap[w11.heap.size]?=some (.cells #[.slice xo s xc] 43 (0,0)):=nbQ eq3
     have HFqwq3:=hid (HF11.out.below (show Below w11.heap.size w11 wq3 by exact baQ eq3))
     have HCQwq3:=hid (show ∀ j u,([.slice xo s xc]:List Value)[j]?=some u->wq3.cell? ⟨w11.heap.size,j,none⟩=some u from fun j u hi=>by
      rw [coQ nqwq3,<-hi,<-List.getElem?_toArray])
     have HOQwq3:=hid (show ∀ q ∈ ([.slice xo s xc]:List Value),q.oneCell'=true from fun q hq=>by rw [List.mem_singleton.1 hq]; rfl)
     have HBqwq3:=hid (show w5.heap.size<=wq3.heap.size from Nat.le_trans HFqwq3.out.le HFqwq3.out.bel.size)
     have HOWwq3:=hid (show ownsT wq3 w5.heap.size 1 (.slice no2 i nc2) i (NR.map (·.1)) from HFqwq3.out.ok 4 _ rfl)
     clear nqwq3
     clear HF11
     go_wp2_with (refine wpList_push_T rfl (.tmp 82) (.tmp 84) 36 43 rfl (.slice none 0 0) 1 24 Tryz.underlying36 info43 rfl (by decide) (.slice no2 i nc2) i (NR.map (·.1)) rfl HOWwq3.out w11.heap.size rfl [.slice xo s xc] rfl HCQwq3.out HOQwq3.out HI12.out HBqwq3.out ?_)
     intro ao12 c12 w12 hown hg8 hat
     have h8:=HFqwq3.out.push_que 4 rfl hown hg8 hat
     clear hown hg8 hat eq3
     have nT:w12.heap[bT]?=some (.cells #[.slice ao8 (i + 1) c8,.slice no2 i nc2,.slice ao10 (i + 1) c10] 96 (0,0)):=h8.ok 1 _ rfl
     have y1:w12.cell? ⟨bT,1,none⟩=some (.slice no2 i nc2):=coQ nT 1
     have yf1:=foQ nT 1
     obtain ⟨w13,e13⟩:=nmQ (w12.setCell ⟨bT,1,none⟩ (.slice ao12 (i + 1) c12))
     have h9:=foot_set (l:=[]) (k:=1) (i:=1) (v:=.slice ao12 (i + 1) c12) h8 rfl
     rw [e13] at h9
     have h10:=foot_gmove (l:=[blkI w5.heap.size (.cells #[.slice ko kl kc,.slice no nl nc] 55 (0,0)),blkI bT (.cells #[(.slice ao8 (i + 1) c8),(.slice ao12 (i + 1) c12),(.slice ao10 (i + 1) c10)] 96 (0,0)),gI w5.heap.size 2 (R ++ [(Value.slice ro (T + 1) rc,T + 1,dC (onlyX (D i) (T + 1) (T + 1)))]),queI w5.heap.size 1 (.slice ao8 (i + 1) c8) (i + 1) (R.map (·.1) ++ [.slice ro (T + 1) rc]),queI w5.heap.size 1 (.slice ao12 (i + 1) c12) (i + 1) (NR.map (·.1) ++ [.slice xo s xc]),queI w5.heap.size 1 (.slice ao10 (i + 1) c10) (i + 1) (((List.range i).map fun j=>S13.u64 (mayX (D j) (T + 1) (T + 1))) ++ [S13.u64 MY])]) (h9.pick [blkI w5.heap.size (.cells #[.slice ko kl kc,.slice no nl nc] 55 (0,0)),blkI bT (.cells #[(.slice ao8 (i + 1) c8),(.slice ao12 (i + 1) c12),(.slice ao10 (i + 1) c10)] 96 (0,0)),gI w5.heap.size 2 (R ++ [(Value.slice ro (T + 1) rc,T + 1,dC (onlyX (D i) (T + 1) (T + 1)))]),queI w5.heap.size 1 (.slice ao8 (i + 1) c8) (i + 1) (R.map (·.1) ++ [.slice ro (T + 1) rc]),queI w5.heap.size 1 (.slice ao12 (i + 1) c12) (i + 1) (NR.map (·.1) ++ [.slice xo s xc]),queI w5.heap.size 1 (.slice ao10 (i + 1) c10) (i + 1) (((List.range i).map fun j=>S13.u64 (mayX (D j) (T + 1) (T + 1))) ++ [S13.u64 MY]),queI w5.heap.size 1 (.slice xo s xc) s ((nextX G (iterB G m).nx i s).map fun z=>Value.int .i64 z),gI w5.heap.size 1 NR] (fun q=>[0,1,2,3,4,5,7,6].getD q 0) (fun q x hx=>by
      match q,hx with
      | 0,hx=>exact hx
      | 1,hx=>exact hx
      | 2,hx=>exact hx
      | 3,hx=>exact hx
      | 4,hx=>exact hx
      | 5,hx=>exact hx
      | 6,hx=>exact hx
      | 7,hx=>exact hx
      | q + 8,hx=>simp at hx) (fun a b ha hb he=>pick8 a ha b hb he))
     have HF13:=hid (show Foot w5.heap.size w5 w13 [blkI w5.heap.size (.cells #[.slice ko kl kc,.slice no nl nc] 55 (0,0)),blkI bT (.cells #[(.slice ao8 (i + 1) c8),(.slice ao12 (i + 1) c12),(.slice ao10 (i + 1) c10)] 96 (0,0)),gI w5.heap.size 2 (R ++ [(Value.slice ro (T + 1) rc,T + 1,dC (onlyX (D i) (T + 1) (T + 1)))]),queI w5.heap.size 1 (.slice ao8 (i + 1) c8) (i + 1) ((R ++ [(Value.slice ro (T + 1) rc,T + 1,dC (onlyX (D i) (T + 1) (T + 1)))]).map (·.1)),queI w5.heap.size 1 (.slice ao12 (i + 1) c12) (i + 1) ((NR ++ [(Value.slice xo s xc,s,((nextX G (iterB G m).nx i s).map fun z=>Value.int .i64 z))]).map (·.1)),queI w5.heap.size 1 (.slice ao10 (i + 1) c10) (i + 1) ((List.range (i + 1)).map fun j=>S13.u64 (mayX (D j) (T + 1) (T + 1))),gI w5.heap.size 1 (NR ++ [(Value.slice xo s xc,s,((nextX G (iterB G m).nx i s).map fun z=>Value.int .i64 z))])] from by
      rw [List.map_append,List.map_append,List.range_succ,List.map_append,List.map_cons,List.map_cons,List.map_nil,List.map_cons,List.map_nil,HMY.out]
      exact h10)
     have HR13:=hid (show (R ++ [(Value.slice ro (T + 1) rc,T + 1,dC (onlyX (D i) (T + 1) (T + 1)))]).length=i + 1/\(NR ++ [(Value.slice xo s xc,s,((nextX G (iterB G m).nx i s).map fun z=>Value.int .i64 z))]).length=i + 1/\RowsOk (fun k=>(T + 1,dC (onlyX (D k) (T + 1) (T + 1)))) (R ++ [(Value.slice ro (T + 1) rc,T + 1,dC (onlyX (D i) (T + 1) (T + 1)))])/\RowsOk (fun k=>(s,(nextX G (iterB G m).nx k s).map fun z=>Value.int .i64 z)) (NR ++ [(Value.slice xo s xc,s,((nextX G (iterB G m).nx i s).map fun z=>Value.int .i64 z))]) from
      ⟨by rw [List.length_append,HR.out.1]; rfl,by rw [List.length_append,HR.out.2.1]; rfl,HR.out.2.2.1.push HR.out.1 _ rfl,HR.out.2.2.2.push HR.out.2.1 _ rfl⟩)
     have j6:(i:Int)<=2000:=by have:=HN.out; omega
     clear h8 h9 h10 nT y2 yf2 e11 t1
     go_wp2_with fail
     refine ⟨⟨i + 1,_,_,_,_,_,by omega,rfl,HR13,HF13⟩,?_⟩
     show m - ((i:Int) + 1).toNat < m - ((i:Int)).toNat
     omega
  ·have j1:¬ (i:Int) < (m:Int):=by omega
   obtain rfl:i=m:=by omega
   obtain ⟨do_,dc,rfl⟩:=(show ownsT wr w5.heap.size 1 dv i _ from HF.out.ok 3 _ rfl).shape
   obtain ⟨no2,nc2,rfl⟩:=(show ownsT wr w5.heap.size 1 nv i _ from HF.out.ok 4 _ rfl).shape
   obtain ⟨mo,mc,rfl⟩:=(show ownsT wr w5.heap.size 1 mv i _ from HF.out.ok 5 _ rfl).shape
   have nT:wr.heap[bT]?=some (.cells #[.slice do_ i dc,.slice no2 i nc2,.slice mo i mc] 96 (0,0)):=HF.out.ok 1 _ rfl
   have t0:wr.cell? ⟨bT,0,none⟩=some (.slice do_ i dc):=coQ nT 0
   have t1:wr.cell? ⟨bT,1,none⟩=some (.slice no2 i nc2):=coQ nT 1
   have t2:wr.cell? ⟨bT,2,none⟩=some (.slice mo i mc):=coQ nT 2
   have nz:=HRB.out wr (HC5.out.trans (HF.out.bel.mono HC5.out.size))
   have xn0:wr.heap[bR]?=some (.cells #[.slice none 0 0,.slice none 0 0,.slice none 0 0] 96 (0,0)):=nz
   have xc0:wr.cell? ⟨bR,0,none⟩=some (.slice none 0 0):=coQ xn0 0
   have xf0:=foQ xn0 0
   obtain ⟨z1,xe0⟩:=nmQ (wr.setCell ⟨bR,0,none⟩ (.slice do_ i dc))
   have xn1:z1.heap[bR]?=some (.cells #[.slice do_ i dc,.slice none 0 0,.slice none 0 0] 96 (0,0)):=hsQ xe0 xn0
   have xc1:z1.cell? ⟨bR,1,none⟩=some (.slice none 0 0):=coQ xn1 1
   have xf1:=foQ xn1 1
   obtain ⟨z2,xe1⟩:=nmQ (z1.setCell ⟨bR,1,none⟩ (.slice no2 i nc2))
   have xn2:z2.heap[bR]?=some (.cells #[.slice do_ i dc,.slice no2 i nc2,.slice none 0 0] 96 (0,0)):=hsQ xe1 xn1
   have xc2:z2.cell? ⟨bR,2,none⟩=some (.slice none 0 0):=coQ xn2 2
   have xf2:=foQ xn2 2
   obtain ⟨z3,xe2⟩:=nmQ (z2.setCell ⟨bR,2,none⟩ (.slice mo i mc))
   have xn3:z3.heap[bR]?=some (.cells #[.slice do_ i dc,.slice no2 i nc2,.slice mo i mc] 96 (0,0)):=hsQ xe2 xn2
   have HNB:=hid xn3
   have HBL:=hid (show Below w.heap.size w z3 from by
    rw [<-xe2,<-xe1,<-xe0]
    exact (((HB5.out.trans (HF.out.bel.mono HB5.out.size)).setCell HRL.out.1 _).setCell HRL.out.1 _).setCell HRL.out.1 _)
   have hkeep:∀ b,w5.heap.size<=b->z3.heap[b]?=wr.heap[b]?:=fun b hb=>by
    have hne:b ≠ bR:=fun e=>by have h1:=HRL.out.2; have h2:=HC5.out.size; omega
    rw [<-xe2,<-xe1,<-xe0]
    exact ((Below.heap_setCell _ ⟨bR,2,none⟩ _ b hne).trans (Below.heap_setCell _ ⟨bR,1,none⟩ _ b hne)).trans (Below.heap_setCell _ ⟨bR,0,none⟩ _ b hne)
   have ok3:∀ (k:Nat) x,([blkI w5.heap.size (.cells #[.slice ko kl kc,.slice no nl nc] 55 (0,0)),blkI bT (.cells #[(.slice do_ i dc),(.slice no2 i nc2),(.slice mo i mc)] 96 (0,0)),gI w5.heap.size 2 R,queI w5.heap.size 1 (.slice do_ i dc) i (R.map (·.1)),queI w5.heap.size 1 (.slice no2 i nc2) i (NR.map (·.1)),queI w5.heap.size 1 (.slice mo i mc) i ((List.range i).map fun j=>S13.u64 (mayX (D j) (T + 1) (T + 1))),gI w5.heap.size 1 NR]:List Item)[k]?=some x->x.ok z3:=fun k x hx=>x.kept (fun b hb=>hkeep b ((HF.out.lt k x hx b hb).1)) (HF.out.ok k x hx)
   have HTZ:=hid (show TabAt z3 (.agg #[.slice do_ i dc,.slice no2 i nc2,.slice mo i mc]) i (T + 1) D (fun k=>nextX G (iterB G i).nx k S) from
    ⟨_,_,_,rfl,rows_own (ok3 3 _ rfl) (ok3 2 _ rfl) HR.out.1 HR.out.2.2.1 (fun k u hk hu=>by
      have hu:ownsT z3 w5.heap.size 2 u (T + 1) (dC (onlyX (D k) (T + 1) (T + 1))):=hu
      have hl:=onlyX_len (D k) (T + 1) (T + 1)
      rw [show ownsT z3 w5.heap.size 2 u (T + 1) (dC (onlyX (D k) (T + 1) (T + 1)))=ownsT z3 w5.heap.size 2 u (onlyX (D k) (T + 1) (T + 1)).length (dC (onlyX (D k) (T + 1) (T + 1))) by rw [hl]] at hu
      exact ownsT.items hu),
     rows_own (ok3 4 _ rfl) (ok3 6 _ rfl) HR.out.2.1 HR.out.2.2.2 (fun k u hk hu=>own_ints hu (by unfold nextX; simp) (fun x hx=>by
      unfold nextX at hx
      obtain ⟨q,_,rfl⟩:=List.mem_map.1 hx
      exact goX_low (NxOk.built HO.out.1) (by have:=(X14.iterB_at G i).2; have:=HN.out; omega) _ _)),
     u64s_own (n:=i) (B:=w5.heap.size) (by rw [List.map_map]; exact ok3 5 _ rfl) (by simp)⟩)
   clear xn0 xn1 xn2 xn3 nz nT HF
   go_wp2_with fail
   refine bodyPost_ret (v:=.tuple #[.agg #[.slice do_ i dc,.slice no2 i nc2,.slice mo i mc],.int .i64 0]) (results96 rfl _ _ bR _ _ _ 0 rfl rfl HNB.out) rfl ?_
   refine ⟨HBL.out,.inr ⟨HO.out.2,i,.inr ⟨HO.out.1,A,HL.out,.inr ⟨?_,_,rfl,?_⟩⟩⟩⟩
   ·rw [HDD.out,HTL.out,HCL.out]
    exact HNE.out
   ·rw [HDD.out,HTL.out,HSL.out]
    exact HTZ.out
end Go.Proofs.YticmnfmijdgmbaaGreatDoor
