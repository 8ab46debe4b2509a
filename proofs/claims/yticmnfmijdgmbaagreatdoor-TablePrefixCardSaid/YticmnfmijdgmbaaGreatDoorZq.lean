/- table.Run: it runs as the machine does. -/
import Derived.Test.YticmnfmijdgmbaaGreatDoorGa
import Derived.Test.YticmnfmijdgmbaaGreatDoorZl
import Derived.Test.YticmnfmijdgmbaaGreatDoorZp
set_option linter.unusedVariables false
set_option linter.unusedSimpArgs false
namespace Go.Proofs.YticmnfmijdgmbaaGreatDoor
open Go Go.RowKit Go.Lib
open X14 (It iterB BuiltOk BuiltMany)
open S13 (bitN top E0 F0 Sub)
open S13.X15 (Pl LeastA askX places cxB)
open S16
theorem path_lt {G:GD} {n:Nat} {D:Nat->Nat->List It} (hO:BuiltOk G n) {i:Nat} {σ:List Nat} {γ:List Int} (h:LR.Path (mG G n D) (i :: σ) γ):i < n:=by
 obtain ⟨_,_,hc,_⟩:=path_item hO h
 exact hc.1
theorem own_take {w:World} {B sz n k c:Nat} {o:Option Addr} {xs:List Value} (h:ownsT w B sz (.slice o n c) n xs) (hk:k<=n):ownsT w B sz (.slice o k c) k (xs.take (k * sz)):=by
 obtain ⟨hl,⟨e,h0⟩ | ⟨g,off,cap,e,h1,h2,h3,h4,h5,h6⟩⟩:=h
 ·injection e with e1 e2 e3
  subst e1 e3
  obtain rfl:k=0:=by omega
  exact ⟨by simp,.inl ⟨rfl,rfl⟩⟩
 ·injection e with e1 e2 e3
  subst e1 e3
  refine ⟨by rw [List.length_take,hl,Nat.min_eq_left (Nat.mul_le_mul_right _ hk)],.inr ⟨g,off,c,rfl,h1,h2,by omega,h4,fun j u hj=>?_,h6⟩⟩
  rw [List.getElem?_take] at hj
  split at hj
  ·exact h5 j u hj
  ·cases hj
def stI (σ:List Nat):List Value:=σ.reverse.map fun (j:Nat)=>.int .i64 (j:Int)
theorem stI_cons (q:Nat) (σ:List Nat):stI (q :: σ)=stI σ ++ [.int .i64 (q:Int)]:=by unfold stI; rw [List.reverse_cons,List.map_append]; rfl
theorem stI_top {j:Nat} {τ0:List Nat} {n:Nat} (h:τ0.length=n):(stI (j :: τ0))[n]?=some (.int .i64 (j:Int)):=by
 rw [stI_cons,List.getElem?_append_right (by unfold stI; rw [List.length_map,List.length_reverse,h]; exact Nat.le_refl _)]
 unfold stI
 rw [List.length_map,List.length_reverse,h,Nat.sub_self]
 rfl
theorem stI_take {σ υ:List Nat} {r:Nat} (h:σ.drop r=υ):(stI σ).take (σ.length - r)=stI υ:=by
 have e:σ=σ.take r ++ υ:=by rw [<-h,List.take_append_drop]
 have hl:(stI υ).length=σ.length - r:=by unfold stI; rw [List.length_map,List.length_reverse,<-h,List.length_drop]
 have e2:stI σ=stI υ ++ stI (σ.take r):=by
  unfold stI
  rw [<-List.map_append,<-List.reverse_append,<-e]
 rw [e2,<-hl]
 exact List.take_left
theorem path_all {G:GD} {n:Nat} {D:Nat->Nat->List It} (hO:BuiltOk G n):∀ {σ:List Nat} {γ:List Int},LR.Path (mG G n D) σ γ->∀ i ∈ σ,i < n
 | _,_,.base,i,hi=>by
  obtain rfl:i=0:=by simpa using hi
  exact S13.X15.n_pos hO
 | _,_,.more j σ γ s h hg,i,hi=>by
  rcases List.mem_cons.1 hi with e | e
  ·rw [e]; exact path_lt hO (.more j σ γ s h hg)
  ·exact path_all hO h i e
theorem own_first {w:World} {B b:Nat} (h:w.heap[b]?=some (.cells #[.int .i64 0] 3 (0,0))) (hB:B<=b:=by exact Nat.le_refl _):ownsT w B 1 (.slice (some ⟨b,0,none⟩) 1 1) 1 (stI [0]):=by
 refine ⟨rfl,.inr ⟨b,0,1,rfl,hB,(ltQ h),Nat.le_refl _,by decide,fun j u hj=>?_,fun j hj=>?_⟩⟩
 ·rw [Nat.zero_add,coQ h j,<-hj]
  rw [<-List.getElem?_toArray]
  rfl
 ·obtain rfl:j=0:=by omega
  exact ⟨by rw [Nat.zero_add,coQ h 0]; rfl,foQ h _⟩
set_option maxRecDepth 100000 in
set_option maxHeartbeats 16000000 in
theorem Run_any {G:GD} {gv tv lv:Value} {w:World} {Bt n:Nat} {A:Pl->Nat} {l r:List Int} {b:Bool} (h:Gram w gv G) (ht:Tab Bt w) (hBt:Bt<=w.heap.size) (hV:validB G=true) (hO:BuiltOk G n) (hL:LA G n A)
  (hno:clX (cntS (dS G n A)) (G.terms.length + 1) n=[]) (htab:TabAt w tv n (G.terms.length + 1) (dS G n A) (fun i=>nextX G (iterB G n).nx i G.sorts.length)) (hl:IntsAt w lv l) (hll:l.length<=1000000)
  (hrun:LR.Runs (mG G n (dS G n A)) (fun t=>0<=t/\t < (G.terms.length:Int)) [0] l b r) :
  Calls Tryz.prog 40 #[gv,tv,lv] w fun e w'=>e=.returned (.tuple #[.bool b,.int .i64 ((l.length - r.length:Nat):Int)])/\Below w.heap.size w w':=by
 have hM:=machine_ok hV hO hL (fun i k hi hk=>clX_none hno i k hi (by omega))
 have HM:=hid hM
 have HGr:=hid h
 have HT:=hid ht
 obtain ⟨tmv,ov,sov,pv,tf,rv,h⟩:=h
 have hgv:=h.eq
 subst hgv
 obtain ⟨to_,tc,rfl,htn,_⟩:=h.terms
 obtain ⟨po,pc,rfl,hpn,hpx⟩:=h.prods
 have HPX:=hid hpx
 have HRT:=hid h.rights
 obtain ⟨T,hT⟩:=nmQ (G.terms.length)
 obtain ⟨NP,hNP⟩:=nmQ (G.prods.length)
 have HTL:=hid hT
 have HNP:=hid hNP
 rw [hT,hNP] at HGr ⊢
 rw [hT] at hno htab hrun
 rw [hNP] at HPX
 obtain ⟨D,hD⟩:=nmQ (dS G n A)
 rw [hD] at hno htab hrun HM
 have HDD:=hid hD
 have HTA:=hid htab
 obtain ⟨du,nu,mu,rfl,ta1,ta2,ta3⟩:=htab
 obtain ⟨lo,lc,rfl,hlN,hlx⟩:=hl.1
 have HLX:=hid hlx
 have HLL:=hid hll
 obtain ⟨LN,hLN⟩:=nmQ (l.length)
 have HLN:=hid hLN
 rw [hLN] at HLX ⊢
 have HH:=hid (show validB G=true/\BuiltOk G n/\LA G n A/\clX (cntS D) (T + 1) n=[] from ⟨hV,hO,hL,hno⟩)
 have HRUN:=hid hrun.count
 obtain ⟨W1,e1⟩:=nmQ (w.alloc (.cells #[.slice to_ T tc,ov,sov,.slice po NP pc,.int .i64 G.start] 27))
 have n1:W1.heap[w.heap.size]?=some (.cells #[.slice to_ T tc,ov,sov,.slice po NP pc,.int .i64 G.start] 27 (0,0)):=nbQ e1
 have b1:Below w.heap.size w W1:=baQ e1
 obtain ⟨W2,e2⟩:=nmQ (W1.alloc (.cells #[du,nu,mu] 96))
 have n2:W2.heap[W1.heap.size]?=some (.cells #[du,nu,mu] 96 (0,0)):=nbQ e2
 have b2:Below W1.heap.size W1 W2:=baQ e2
 obtain ⟨bT,hbT⟩:=nmQ (W1.heap.size)
 rw [hbT] at n2
 have n1':=(b2.block _ (ltQ n1)).trans n1
 have HB2:=hid (b1.trans (b2.mono b1.size))
 have HS:=hid (show ∀ w',Below W2.heap.size W2 w'->(w'.cell? ⟨w.heap.size,0,none⟩=some (.slice to_ T tc)/\w'.cell? ⟨w.heap.size,1,none⟩=some ov/\w'.cell? ⟨w.heap.size,2,none⟩=some sov/\w'.cell? ⟨w.heap.size,3,none⟩=some (.slice po NP pc)/\w'.cell? ⟨w.heap.size,4,none⟩=some (.int .i64 G.start))/\(w'.cell? ⟨bT,0,none⟩=some du/\w'.cell? ⟨bT,1,none⟩=some nu/\w'.cell? ⟨bT,2,none⟩=some mu) from fun w' hC =>
  ⟨⟨cell_below hC (coQ n1' 0),cell_below hC (coQ n1' 1),cell_below hC (coQ n1' 2),cell_below hC (coQ n1' 3),cell_below hC (coQ n1' 4)⟩,⟨cell_below hC (coQ n2 0),cell_below hC (coQ n2 1),cell_below hC (coQ n2 2)⟩⟩)
 obtain ⟨⟨c0,c1,c2,c3,c4⟩,_⟩:=HS.out W2 (Below.refl _ _)
 have KB:=hid (BuildT_any (HGr.out.below HB2.out) (HT.out.on (HB2.out.mono hBt)) (Nat.le_trans hBt HB2.out.size))
 clear h hM hT hNP hD ta1 ta2 ta3 hlx hll hLN hV hO hL hno hrun n1 n2 n1' b1 b2 hpx htn hpn hlN hl
 go_enter Tryz.func40,Tryz.ntmps40
 go_wp2_with fail
 refine KB.out.mono ?_
 rintro e w3 ⟨hb3,hcase⟩
 have HB3:=hid (HB2.out.trans (hb3.mono HB2.out.size))
 have HC3:=hid hb3
 clear c0 c1 c2 c3 c4 KB hb3 e1 e2 hbT
 rcases hcase with ⟨hV,rfl⟩ | ⟨hV,m,⟨hM,rfl⟩ | ⟨hO,A',hL',⟨hC,rfl⟩ | ⟨_,bv,rfl,hbv⟩⟩⟩
 ·exact absurd (hV.symm.trans HH.out.1) (by decide)
 ·exact (X14.Built.not HH.out.2.1 hM).elim
 ·exfalso
  obtain rfl:=X14.Built.one hO HH.out.2.1
  obtain rfl:A'=A:=funext fun q=>hL'.one HH.out.2.2.1 q
  refine hC ?_
  show clX (cntS (dS G m A')) (G.terms.length + 1) m=[]
  rw [HDD.out,HTL.out]
  exact HH.out.2.2.2
 obtain rfl:=X14.Built.one hO HH.out.2.1
 obtain rfl:A'=A:=funext fun q=>hL'.one HH.out.2.2.1 q
 have hbv:TabAt w3 bv m (G.terms.length + 1) (dS G m A') (fun i=>nextX G (iterB G m).nx i G.sorts.length):=hbv
 rw [HDD.out,HTL.out] at hbv
 have HBV:=hid hbv
 obtain ⟨dv,nv,mv,rfl,tb1,tb2,tb3⟩:=hbv
 obtain ⟨dvo,dvc,rfl,_⟩:=tb1.len
 obtain ⟨nvo,nvc,rfl,_⟩:=tb2.len
 obtain ⟨mvo,ml,mvc,rfl⟩:∃ o n c,mv=.slice o n c:=by
  obtain ⟨o,c,e,_⟩:=tb3
  exact ⟨o,_,c,e⟩
 obtain ⟨W4,e4⟩:=nmQ (w3.alloc (.cells #[.slice none 0 0,.slice none 0 0,.slice none 0 0] 96))
 have n4:W4.heap[w3.heap.size]?=some (.cells #[.slice none 0 0,.slice none 0 0,.slice none 0 0] 96 (0,0)):=nbQ e4
 have vn0:W4.heap[w3.heap.size]?=some (.cells #[.slice none 0 0,.slice none 0 0,.slice none 0 0] 96 (0,0)):=n4
 have vc0:W4.cell? ⟨w3.heap.size,0,none⟩=some (.slice none 0 0):=coQ vn0 0
 have vf0:=foQ vn0 0
 obtain ⟨u1,ve0⟩:=nmQ (W4.setCell ⟨w3.heap.size,0,none⟩ (.slice dvo m dvc))
 have vn1:u1.heap[w3.heap.size]?=some (.cells #[.slice dvo m dvc,.slice none 0 0,.slice none 0 0] 96 (0,0)):=hsQ ve0 vn0
 have vc1:u1.cell? ⟨w3.heap.size,1,none⟩=some (.slice none 0 0):=coQ vn1 1
 have vf1:=foQ vn1 1
 obtain ⟨u2,ve1⟩:=nmQ (u1.setCell ⟨w3.heap.size,1,none⟩ (.slice nvo m nvc))
 have vn2:u2.heap[w3.heap.size]?=some (.cells #[.slice dvo m dvc,.slice nvo m nvc,.slice none 0 0] 96 (0,0)):=hsQ ve1 vn1
 have vc2:u2.cell? ⟨w3.heap.size,2,none⟩=some (.slice none 0 0):=coQ vn2 2
 have vf2:=foQ vn2 2
 obtain ⟨u3,ve2⟩:=nmQ (u2.setCell ⟨w3.heap.size,2,none⟩ (.slice mvo ml mvc))
 have vn3:u3.heap[w3.heap.size]?=some (.cells #[.slice dvo m dvc,.slice nvo m nvc,.slice mvo ml mvc] 96 (0,0)):=hsQ ve2 vn2
 have hb3u:Below w3.heap.size w3 u3:=by
  rw [<-ve2,<-ve1,<-ve0,<-e4]
  exact ((((Below.refl _ _).alloc (Nat.le_refl _) _).setCell (Nat.le_refl _) _).setCell (Nat.le_refl _) _).setCell (Nat.le_refl _) _
 have HBU:=hid (HB3.out.trans (hb3u.mono HB3.out.size))
 have HCU:=hid (HC3.out.trans (hb3u.mono HC3.out.size))
 have HNU:=hid vn3
 obtain ⟨⟨c0,c1,c2,c3,c4⟩,⟨d0,d1,d2⟩⟩:=HS.out u3 HCU.out
 have b0:u3.cell? ⟨w3.heap.size,0,none⟩=some (.slice dvo m dvc):=coQ vn3 0
 have b1:u3.cell? ⟨w3.heap.size,1,none⟩=some (.slice nvo m nvc):=coQ vn3 1
 have b2:u3.cell? ⟨w3.heap.size,2,none⟩=some (.slice mvo ml mvc):=coQ vn3 2
 have KS:=hid (sameT_any (HTA.out.below HBU.out) (HBV.out.below hb3u))
 have HB3U:=hid hb3u
 have HTB:=hid (And.intro tb1 tb2)
 clear tb1 tb2 tb3 hb3u n4 vn0 vn1 vn2 vn3 hL' hO
 go_wp2_with fail
 refine KS.out.mono ?_
 rintro e w5 ⟨rfl,hb5⟩
 have HB5:=hid (HBU.out.trans (hb5.mono HBU.out.size))
 have HC5:=hid (HCU.out.trans (hb5.mono HCU.out.size))
 have HX5:=hid (HB3U.out.trans (hb5.mono HB3U.out.size))
 have HN5:=hid ((hb5.block _ (ltQ HNU.out)).trans HNU.out)
 clear c0 c1 c2 c3 c4 d0 d1 d2 b0 b1 b2 KS hb5 vc0 vf0 vc1 vf1 vc2 vf2 ve0 ve1 ve2 e4
 obtain ⟨W6,e6⟩:=nmQ (w5.alloc (.cells #[.int .i64 0] 3))
 have n6:W6.heap[w5.heap.size]?=some (.cells #[.int .i64 0] 3 (0,0)):=nbQ e6
 have hb56:Below w5.heap.size w5 W6:=baQ e6
 have HF:=hid (show Foot w5.heap.size w5 W6 [queI w5.heap.size 1 (.slice (some ⟨w5.heap.size,0,none⟩) 1 1) ([0]).length (stI [0])] from (Foot.empty w5 w5.heap.size (Nat.le_refl _)).add (queI w5.heap.size 1 (.slice (some ⟨w5.heap.size,0,none⟩) 1 1) 1 (stI [0])) hb56 (own_first n6) (fun b hb=>by
  obtain rfl:b=w5.heap.size:=by
   have:b ∈ (Value.slice (some ⟨w5.heap.size,0,none⟩) 1 1).ownBlock.toList:=hb
   simpa [Value.ownBlock] using this
  exact ⟨Nat.le_refl _,(ltQ n6)⟩))
 obtain ⟨b8,hb8⟩:=nmQ (w3.heap.size)
 have HW3:=hid (show w3.heap.size<=w5.heap.size from HX5.out.size)
 rw [hb8] at HN5
 have HD5:=hid (show ∀ w',Below w5.heap.size w5 w'->w'.cell? ⟨b8,0,none⟩=some (.slice dvo m dvc)/\w'.cell? ⟨b8,1,none⟩=some (.slice nvo m nvc)/\w'.cell? ⟨b8,2,none⟩=some (.slice mvo ml mvc) from fun w' hC=>⟨cell_below hC (coQ HN5.out 0),cell_below hC (coQ HN5.out 1),cell_below hC (coQ HN5.out 2)⟩)
 clear n6 hb56
 go_wp2_with fail
 clear e6 hb8
 go_loopw [10,11] (fun t10 t11 wr=>∃ k,(∃ (σ:List Nat) (at_ SN:Nat),at_<=LN/\t11=.int .i64 (at_:Int)/\Hid (LR.RunsN (mG G m D) (fun t=>0<=t/\t < (T:Int)) k σ (l.drop at_) b r)/\Hid (∃ γ,LR.Path (mG G m D) σ γ)/\Hid (σ.length=SN + 1)/\Hid (∃ τ ρ,σ=τ ++ ρ/\τ ≠ []/\LR.Tower (mG G m D) (LR.hd (l.drop at_)) τ/\ρ.length<=at_ * (m + 1))/\Hid (Foot w5.heap.size w5 wr [queI w5.heap.size 1 t10 (SN + 1) (stI σ)]))) (fun t10 t11 wr=>minOf fun k=>(∃ (σ:List Nat) (at_ SN:Nat),at_<=LN/\t11=.int .i64 (at_:Int)/\Hid (LR.RunsN (mG G m D) (fun t=>0<=t/\t < (T:Int)) k σ (l.drop at_) b r)/\Hid (∃ γ,LR.Path (mG G m D) σ γ)/\Hid (σ.length=SN + 1)/\Hid (∃ τ ρ,σ=τ ++ ρ/\τ ≠ []/\LR.Tower (mG G m D) (LR.hd (l.drop at_)) τ/\ρ.length<=at_ * (m + 1))/\Hid (Foot w5.heap.size w5 wr [queI w5.heap.size 1 t10 (SN + 1) (stI σ)])))
 case atStart =>
  obtain ⟨k,hk⟩:=HRUN.out
  exact ⟨k,[0],0,0,Nat.zero_le _,rfl,hid hk,hid ⟨_,.base⟩,hid rfl,hid ⟨[0],[],rfl,by simp,LR.Tower.one _ _,Nat.zero_le _⟩,HF⟩
 case round =>
  clear HF
  have hmin:=minOf_spec hrel
  obtain ⟨kk,hkk⟩:∃ kk,(minOf fun k=>(∃ (σ:List Nat) (at_ SN:Nat),at_<=LN/\u11=.int .i64 (at_:Int)/\Hid (LR.RunsN (mG G m D) (fun t=>0<=t/\t < (T:Int)) k σ (l.drop at_) b r)/\Hid (∃ γ,LR.Path (mG G m D) σ γ)/\Hid (σ.length=SN + 1)/\Hid (∃ τ ρ,σ=τ ++ ρ/\τ ≠ []/\LR.Tower (mG G m D) (LR.hd (l.drop at_)) τ/\ρ.length<=at_ * (m + 1))/\Hid (Foot w5.heap.size w5 wr [queI w5.heap.size 1 u10 (SN + 1) (stI σ)])))=kk:=⟨_,rfl⟩
  rw [hkk] at hmin
  have HKK:=hid hkk
  clear hkk hrel
  obtain ⟨σ,at_,SN,hat,rfl,HRN,HPA,HSN,HTO,HF⟩:=hmin
  obtain ⟨j,τ0,rfl⟩:∃ j τ,σ=j :: τ:=by
   obtain ⟨γ,hp⟩:=HPA.out
   cases σ with
   | nil=>cases hp
   | cons j τ=>exact ⟨j,τ,rfl⟩
  have hj:j < m:=by
   obtain ⟨γ,hp⟩:=HPA.out
   exact path_lt HH.out.2.1 hp
  obtain ⟨so,sc,rfl⟩:=(show ownsT wr w5.heap.size 1 u10 (SN + 1) _ from HF.out.ok 0 _ rfl).shape
  obtain ⟨sg,sf,rfl,hsc⟩:=ownsT_cell (show ownsT wr w5.heap.size 1 (.slice so (SN + 1) sc) (SN + 1) _ from HF.out.ok 0 _ rfl) (by omega)
  have hst:(stI (j :: τ0))[SN]?=some (.int .i64 (j:Int)):=by
   have h1:=HSN.out
   rw [List.length_cons] at h1
   exact stI_top (by omega)
  have z0:wr.cell? ⟨sg,sf + SN,none⟩=some (.int .i64 (j:Int)):=hsc SN _ hst
  have hcap:SN + 1<=sc:=by
   obtain ⟨_,⟨e,h0⟩ | ⟨g,off,cap,e,_,_,h3,_⟩⟩:=(show ownsT wr w5.heap.size 1 (.slice (some ⟨sg,sf,none⟩) (SN + 1) sc) (SN + 1) _ from HF.out.ok 0 _ rfl)
   ·cases e
   ·cases e; omega
  have HCAP:=hid hcap
  have HSL:=hid (show (stI (j :: τ0)).length=SN + 1 from by unfold stI; rw [List.length_map,List.length_reverse,HSN.out])
  have HYticmnfmijdgmbaaGreatDoor:=hid (show m<=2000 from built2 HH.out.2.1)
  have HM12:=hid (show SN + 1<=1000000000000 from by
   obtain ⟨τ1,ρ1,e,_,h3,h4⟩:=HTO.out
   obtain ⟨γ,hp⟩:=HPA.out
   rw [e] at hp
   have h5:=LR.nodup_nat m τ1 (h3.nodup HM.out hp) (fun v hv=>path_all HH.out.2.1 hp v (List.mem_append_left _ hv))
   have h6:=HSN.out
   rw [e,List.length_append] at h6
   have h7:at_ * (m + 1)<=1000000 * 2001:=Nat.mul_le_mul (by have:=HLL.out; have:=HLN.out; omega) (by have:=HYticmnfmijdgmbaaGreatDoor.out; omega)
   have:=HYticmnfmijdgmbaaGreatDoor.out
   omega)
  have HSHT:=hid (show ∀ q,∃ τ ρ,q :: j :: τ0=τ ++ ρ/\τ ≠ []/\LR.Tower (mG G m D) (LR.hd (l.drop (at_ + 1))) τ/\ρ.length<=(at_ + 1) * (m + 1) from fun q=>by
   obtain ⟨τ1,ρ1,e,_,h3,h4⟩:=HTO.out
   obtain ⟨γ,hp⟩:=HPA.out
   rw [e] at hp
   have h5:=LR.nodup_nat m τ1 (h3.nodup HM.out hp) (fun v hv=>path_all HH.out.2.1 hp v (List.mem_append_left _ hv))
   refine ⟨[q],j :: τ0,rfl,by simp,LR.Tower.one _ _,?_⟩
   rw [e,List.length_append,Nat.add_mul,Nat.one_mul]
   omega)
  have hwr:IntKind.i64.wrap (SN:Int)=(SN:Int):=by
   have:=HM12.out
   rw [IntKind.wrap_i64]
   omega
  have s0:(0:Int)<=(SN:Int):=by omega
  have s1:(SN:Int) < (SN:Int) + 1:=by omega
  have j0:(0:Int)<=(j:Int):=by omega
  have j1:(j:Int) < (m:Int):=by omega
  obtain ⟨db,df,u,rfl,u1,u2⟩:=HTB.out.1.at_ hj
  obtain ⟨ro,rc,rfl,_⟩:=u2.len
  rw [onlyX_len] at u1 u2
  have HU2:=hid u2
  have HW5:=hid (HX5.out.trans (HF.out.bel.mono HX5.out.size))
  have HWW:=hid (HB5.out.trans (HF.out.bel.mono HB5.out.size))
  have z1:=cell_below HW5.out u1
  have HM60:=hid (S13.valid_few HH.out.1)
  have hT60:T<=60:=by rw [<-HTL.out]; exact HM60.out.1
  obtain ⟨⟨c0,c1,c2,c3,c4⟩,_⟩:=HS.out wr (HC5.out.trans (HF.out.bel.mono HC5.out.size))
  clear u1 u2 hsc hst hcap
  by_cases hin:at_ < LN
  ·have a1:(at_:Int) < (LN:Int):=by omega
   have a0:(0:Int)<=(at_:Int):=by omega
   have d1:decide ((at_:Int) < (LN:Int))=true:=decide_eq_true a1
   obtain ⟨lb,lf,rfl,hlx⟩:=HLX.out (by omega)
   have hz:=hlx at_ hin
   obtain ⟨z,hzz⟩:=nmQ (l.getD at_ 0)
   rw [hzz] at hz
   have z2:=cell_below HWW.out hz
   have HDR:=hid (show l.drop at_=z :: l.drop (at_ + 1) from by
    have hl:at_ < l.length:=by rw [HLN.out]; exact hin
    rw [List.drop_eq_getElem_cons hl,<-hzz,gdQ,geQ hl]
    rfl)
   clear hlx hz hzz
   by_cases hz0:z < 0
   ·have e0:decide (z < 0)=true:=decide_eq_true hz0
    have HRES:=hid (show b=false/\r=z :: l.drop (at_ + 1) from (HDR.out ▸ HRN.out).at_bad (fun h=>absurd h.1 (by omega)))
    have HNN:=hid (show ((LN - r.length:Nat):Int)=(at_:Int) from by rw [HRES.out.2,<-HDR.out,List.length_drop,HLN.out]; omega)
    clear hz0
    go_wp2_with fail
    refine bodyPost_ret (results_tmp2 rfl _ _ _) rfl ?_
    refine ⟨?_,HWW.out⟩
    rw [HNN.out,HRES.out.1]
    rfl
   ·have e0:decide (z < 0)=false:=decide_eq_false hz0
    by_cases hzT:(T:Int)<=z
    ·have e1:decide ((T:Int)<=z)=true:=decide_eq_true hzT
     have HRES:=hid (show b=false/\r=z :: l.drop (at_ + 1) from (HDR.out ▸ HRN.out).at_bad (fun h=>absurd h.2 (by omega)))
     have HNN:=hid (show ((LN - r.length:Nat):Int)=(at_:Int) from by rw [HRES.out.2,<-HDR.out,List.length_drop,HLN.out]; omega)
     clear hz0 hzT
     go_wp2_with fail
     refine bodyPost_ret (results_tmp2 rfl _ _ _) rfl ?_
     refine ⟨?_,HWW.out⟩
     rw [HNN.out,HRES.out.1]
     rfl
    ·have e1:decide ((T:Int)<=z)=false:=decide_eq_false hzT
     obtain ⟨k,rfl⟩:∃ k:Nat,z=(k:Int):=⟨z.toNat,by omega⟩
     have hkT:k < T:=by omega
     have HTT:=hid (show ((k:Int)=63\/0<=(k:Int)/\(k:Int) < (T:Int))/\colX T (k:Int)=k/\LR.hd (l.drop at_)=(k:Int)/\∀ t ∈ (l.drop at_).head?,0<=t/\t < (T:Int) from
      ⟨.inr ⟨by omega,by omega⟩,by unfold colX; rw [if_neg (by omega),Int.toNat_natCast],by rw [HDR.out]; rfl,by
       rw [HDR.out]
       intro t ht
       obtain rfl:(k:Int)=t:=Option.some.inj ht
       exact ⟨by omega,by omega⟩⟩)
     clear hz0 hzT
     obtain ⟨rb,rf,rfl,y0,y1⟩:=(show ItemsAt wr (.slice ro (T + 1) rc) (onlyX (D j) (T + 1) (T + 1)) from HU2.out.below HW5.out).at_ (k:=k) (x:=(D j k).headD (0,0)) (by rw [onlyX_get (by omega),if_pos (by omega)])
     obtain ⟨xx,hxx⟩:=nmQ ((D j k).headD (0,0))
     rw [hxx] at y0 y1
     have hcs:=deed_cases HH.out.1 HH.out.2.1 HH.out.2.2.1 (i:=j) (t:=(k:Int)) hj (by rw [HTL.out]; exact HTT.out.1) (x:=xx) (by rw [HTL.out,HTT.out.2.1,HDD.out]; exact hxx)
     rw [HTL.out,HDD.out,HNP.out] at hcs
     have k1:(k:Int) < (T:Int) + 1:=by omega
     have k2:k < T + 1:=by omega
     have k0:(0:Int)<=(k:Int):=by omega
     clear hxx
     obtain ⟨we,ewe⟩:=nmQ (wr.drew)
     have hbe:Below wr.heap.size wr we:=bdQ ewe
     obtain ⟨wa,ea⟩:=nmQ (we.alloc (.cells #[.int .i64 0,.int .i64 0] 91))
     have na:wa.heap[we.heap.size]?=some (.cells #[.int .i64 0,.int .i64 0] 91 (0,0)):=nbQ ea
     have hba:Below wr.heap.size wr wa:=hbe.trans ((by exact baQ ea:Below we.heap.size we wa).mono hbe.size)
     obtain ⟨e8,_,_⟩:=HD5.out wr HF.out.bel
     have HES:=hid hbe.size
     rcases hcs with ⟨rfl,hact⟩ | ⟨q,rfl,hq,ht0,ht1,hgo,hqt,hact⟩ | ⟨p,rfl,hp,hact⟩ | ⟨rfl,hact⟩
     ·dsimp only at y0 y1
      have vn0:wa.heap[we.heap.size]?=some (.cells #[.int .i64 0,.int .i64 0] 91 (0,0)):=na
      have vc0:wa.cell? ⟨we.heap.size,0,none⟩=some (.int .i64 0):=coQ vn0 0
      have vf0:=foQ vn0 0
      obtain ⟨y1w,ve0⟩:=nmQ (wa.setCell ⟨we.heap.size,0,none⟩ (.int .i64 0))
      have vn1:y1w.heap[we.heap.size]?=some (.cells #[.int .i64 0,.int .i64 0] 91 (0,0)):=hsQ ve0 vn0
      have vc1:y1w.cell? ⟨we.heap.size,1,none⟩=some (.int .i64 0):=coQ vn1 1
      have vf1:=foQ vn1 1
      obtain ⟨y2w,ve1⟩:=nmQ (y1w.setCell ⟨we.heap.size,1,none⟩ (.int .i64 0))
      have vn2:y2w.heap[we.heap.size]?=some (.cells #[.int .i64 0,.int .i64 0] 91 (0,0)):=hsQ ve1 vn1
      have HBY:=hid (show Below wr.heap.size wr y2w from by
       rw [<-ve1,<-ve0]
       exact (hba.setCell HES.out _).setCell HES.out _)
      have HNY:=hid vn2
      have HH0:we.cell? ⟨b8,0,none⟩=some (.slice (some ⟨db,df,none⟩) m dvc)/\we.cell? ⟨sg,sf + SN,none⟩=some (.int .i64 (j:Int))/\we.cell? ⟨db,df + j,none⟩=some (.slice (some ⟨rb,rf,none⟩) (T + 1) rc)/\we.cell? ⟨rb,rf + k * 2,none⟩=some (.int .i64 0)/\we.cell? ⟨rb,rf + k * 2 + 1,none⟩=some (.int .i64 0):=⟨cell_below hbe e8,cell_below hbe z0,cell_below hbe z1,cell_below hbe y0,cell_below hbe y1⟩
      have HH1:wa.cell? ⟨b8,0,none⟩=some (.slice (some ⟨db,df,none⟩) m dvc)/\wa.cell? ⟨sg,sf + SN,none⟩=some (.int .i64 (j:Int))/\wa.cell? ⟨db,df + j,none⟩=some (.slice (some ⟨rb,rf,none⟩) (T + 1) rc)/\wa.cell? ⟨rb,rf + k * 2,none⟩=some (.int .i64 0)/\wa.cell? ⟨rb,rf + k * 2 + 1,none⟩=some (.int .i64 0):=⟨cell_below hba e8,cell_below hba z0,cell_below hba z1,cell_below hba y0,cell_below hba y1⟩
      have g0:y2w.cell? ⟨we.heap.size,0,none⟩=some (.int .i64 0):=coQ vn2 0
      have g1:y2w.cell? ⟨we.heap.size,1,none⟩=some (.int .i64 0):=coQ vn2 1
      have HZ:=hid (And.intro z0 z1)
      clear vn0 vn1 vn2 na hbe hba z0 z1 y0 y1 e8
      go_wp2_with fail
      clear c0 c1 c2 c3 c4
      refine region_T 14 (fun w'=>w'.cell? ⟨b8,0,none⟩=some (.slice (some ⟨db,df,none⟩) m dvc)/\w'.cell? ⟨sg,sf + SN,none⟩=some (.int .i64 (j:Int))/\w'.cell? ⟨db,df + j,none⟩=some (.slice (some ⟨rb,rf,none⟩) (T + 1) rc)/\w'.cell? ⟨rb,rf + k * 2,none⟩=some (.int .i64 0)/\w'.cell? ⟨rb,rf + k * 2 + 1,none⟩=some (.int .i64 0)) (by kernel_rfl) (by rw [ewe]; exact HH0) (fun inv hHeld=>?_)
      rw [ewe]
      clear hHeld ewe
      iterate 13
       refine anyT_auto (v:=?_) rfl (by kernel_rfl) (fun _ _ _ h=>h) (Or.inl ⟨by rfl,?_⟩) HH0 inv (fun inv=>?_)
       rotate_left
       ·intro w hSw
        try dsimp only at hSw
        go_simp
        try with_reducible rfl
       simp only [Act.put,sjA,sj0,sjS]
      refine anyT_next (i:=13) (o:={dst:=some 13,op:=.alloc 91,type:=0,pos := "table.go:167",after:=#[],guard:=none}) (by kernel_rfl) rfl (by decide) inv (fun inv K' hK=>?_)
      go_simp
      refine hK.out _ _ HH1 ?_
      clear hK K' HH0
      try simp only [Act.put,sjA,sj0,sjS]
      refine anyT_one (i:=14) (o:={dst:=none,op:=.store 91 (.tmp 13) (.tmp 62),type:=0,pos := "table.go:167",after:=#[{on:=13,ground:=.data},{on:=12,ground:=.data},{on:=0,ground:=.phase},{on:=1,ground:=.phase},{on:=2,ground:=.phase},{on:=3,ground:=.phase},{on:=4,ground:=.phase},{on:=5,ground:=.phase},{on:=6,ground:=.phase},{on:=7,ground:=.phase},{on:=8,ground:=.phase},{on:=9,ground:=.phase},{on:=10,ground:=.phase},{on:=11,ground:=.phase},{on:=12,ground:=.phase},{on:=13,ground:=.phase}],guard:=none}) (by kernel_rfl) rfl (fun K' hK=>?_)
      go_simp
      refine hK.out _ _ (fun h=>absurd h (by decide)) ?_
      clear hK K'
      try simp only [Act.put,sjA,sj0,sjS]
      refine anyT_done (by kernel_rfl) ?_ _
      clear HH1
      clear vc0 vf0 vc1 vf1 ve0 ve1 ea
      have HRES:=hid (show b=false/\r=l.drop at_ from HRN.out.at_wrong HTT.out.2.2.2 (by rw [HTT.out.2.2.1]; exact hact))
      have HNN:=hid (show ((LN - r.length:Nat):Int)=(at_:Int) from by rw [HRES.out.2,List.length_drop,HLN.out]; omega)
      go_wp2_with fail
      refine bodyPost_ret (results_tmp2 rfl _ _ _) rfl ?_
      refine ⟨?_,HWW.out.trans (HBY.out.mono HWW.out.size)⟩
      rw [HNN.out,HRES.out.1]
      rfl
     ·have HQ:=hid (And.intro hgo hqt)
      have HACT:=hid hact
      clear hgo hqt hact ht0 ht1
      dsimp only at y0 y1
      have vn0:wa.heap[we.heap.size]?=some (.cells #[.int .i64 0,.int .i64 0] 91 (0,0)):=na
      have vc0:wa.cell? ⟨we.heap.size,0,none⟩=some (.int .i64 0):=coQ vn0 0
      have vf0:=foQ vn0 0
      obtain ⟨y1w,ve0⟩:=nmQ (wa.setCell ⟨we.heap.size,0,none⟩ (.int .i64 1))
      have vn1:y1w.heap[we.heap.size]?=some (.cells #[.int .i64 1,.int .i64 0] 91 (0,0)):=hsQ ve0 vn0
      have vc1:y1w.cell? ⟨we.heap.size,1,none⟩=some (.int .i64 0):=coQ vn1 1
      have vf1:=foQ vn1 1
      obtain ⟨y2w,ve1⟩:=nmQ (y1w.setCell ⟨we.heap.size,1,none⟩ (.int .i64 (q:Int)))
      have vn2:y2w.heap[we.heap.size]?=some (.cells #[.int .i64 1,.int .i64 (q:Int)] 91 (0,0)):=hsQ ve1 vn1
      have HBY:=hid (show Below wr.heap.size wr y2w from by
       rw [<-ve1,<-ve0]
       exact (hba.setCell HES.out _).setCell HES.out _)
      have HNY:=hid vn2
      have HH0:we.cell? ⟨b8,0,none⟩=some (.slice (some ⟨db,df,none⟩) m dvc)/\we.cell? ⟨sg,sf + SN,none⟩=some (.int .i64 (j:Int))/\we.cell? ⟨db,df + j,none⟩=some (.slice (some ⟨rb,rf,none⟩) (T + 1) rc)/\we.cell? ⟨rb,rf + k * 2,none⟩=some (.int .i64 1)/\we.cell? ⟨rb,rf + k * 2 + 1,none⟩=some (.int .i64 (q:Int)):=⟨cell_below hbe e8,cell_below hbe z0,cell_below hbe z1,cell_below hbe y0,cell_below hbe y1⟩
      have HH1:wa.cell? ⟨b8,0,none⟩=some (.slice (some ⟨db,df,none⟩) m dvc)/\wa.cell? ⟨sg,sf + SN,none⟩=some (.int .i64 (j:Int))/\wa.cell? ⟨db,df + j,none⟩=some (.slice (some ⟨rb,rf,none⟩) (T + 1) rc)/\wa.cell? ⟨rb,rf + k * 2,none⟩=some (.int .i64 1)/\wa.cell? ⟨rb,rf + k * 2 + 1,none⟩=some (.int .i64 (q:Int)):=⟨cell_below hba e8,cell_below hba z0,cell_below hba z1,cell_below hba y0,cell_below hba y1⟩
      have g0:y2w.cell? ⟨we.heap.size,0,none⟩=some (.int .i64 1):=coQ vn2 0
      have g1:y2w.cell? ⟨we.heap.size,1,none⟩=some (.int .i64 (q:Int)):=coQ vn2 1
      have HZ:=hid (And.intro z0 z1)
      clear vn0 vn1 vn2 na hbe hba z0 z1 y0 y1 e8
      go_wp2_with fail
      clear c0 c1 c2 c3 c4
      refine region_T 14 (fun w'=>w'.cell? ⟨b8,0,none⟩=some (.slice (some ⟨db,df,none⟩) m dvc)/\w'.cell? ⟨sg,sf + SN,none⟩=some (.int .i64 (j:Int))/\w'.cell? ⟨db,df + j,none⟩=some (.slice (some ⟨rb,rf,none⟩) (T + 1) rc)/\w'.cell? ⟨rb,rf + k * 2,none⟩=some (.int .i64 1)/\w'.cell? ⟨rb,rf + k * 2 + 1,none⟩=some (.int .i64 (q:Int))) (by kernel_rfl) (by rw [ewe]; exact HH0) (fun inv hHeld=>?_)
      rw [ewe]
      clear hHeld ewe
      iterate 13
       refine anyT_auto (v:=?_) rfl (by kernel_rfl) (fun _ _ _ h=>h) (Or.inl ⟨by rfl,?_⟩) HH0 inv (fun inv=>?_)
       rotate_left
       ·intro w hSw
        try dsimp only at hSw
        go_simp
        try with_reducible rfl
       simp only [Act.put,sjA,sj0,sjS]
      refine anyT_next (i:=13) (o:={dst:=some 13,op:=.alloc 91,type:=0,pos := "table.go:167",after:=#[],guard:=none}) (by kernel_rfl) rfl (by decide) inv (fun inv K' hK=>?_)
      go_simp
      refine hK.out _ _ HH1 ?_
      clear hK K' HH0
      try simp only [Act.put,sjA,sj0,sjS]
      refine anyT_one (i:=14) (o:={dst:=none,op:=.store 91 (.tmp 13) (.tmp 62),type:=0,pos := "table.go:167",after:=#[{on:=13,ground:=.data},{on:=12,ground:=.data},{on:=0,ground:=.phase},{on:=1,ground:=.phase},{on:=2,ground:=.phase},{on:=3,ground:=.phase},{on:=4,ground:=.phase},{on:=5,ground:=.phase},{on:=6,ground:=.phase},{on:=7,ground:=.phase},{on:=8,ground:=.phase},{on:=9,ground:=.phase},{on:=10,ground:=.phase},{on:=11,ground:=.phase},{on:=12,ground:=.phase},{on:=13,ground:=.phase}],guard:=none}) (by kernel_rfl) rfl (fun K' hK=>?_)
      go_simp
      refine hK.out _ _ (fun h=>absurd h (by decide)) ?_
      clear hK K'
      try simp only [Act.put,sjA,sj0,sjS]
      refine anyT_done (by kernel_rfl) ?_ _
      clear HH1
      clear vc0 vf0 vc1 vf1 ve0 ve1 ea
      have HFy:=hid (HF.out.below HBY.out)
      obtain ⟨wq,eq⟩:=nmQ (y2w.alloc (.cells #[.int .i64 (q:Int)] 3))
      have nq:wq.heap[y2w.heap.size]?=some (.cells #[.int .i64 (q:Int)] 3 (0,0)):=nbQ eq
      have HFq:=hid (HFy.out.below (show Below y2w.heap.size y2w wq by exact baQ eq))
      have HCQ:=hid (show ∀ j u,([.int .i64 (q:Int)]:List Value)[j]?=some u->wq.cell? ⟨y2w.heap.size,j,none⟩=some u from fun j u hi=>by
       rw [coQ nq,<-hi,<-List.getElem?_toArray])
      have HOQ:=hid (show ∀ x ∈ ([.int .i64 (q:Int)]:List Value),x.oneCell'=true from fun q hq=>by rw [List.mem_singleton.1 hq]; rfl)
      have HBq:=hid (show w5.heap.size<=wq.heap.size from Nat.le_trans HFq.out.le HFq.out.bel.size)
      have HOW:=hid (show ownsT wq w5.heap.size 1 (.slice (some ⟨sg,sf,none⟩) (SN + 1) sc) (SN + 1) (stI (j :: τ0)) from HFq.out.ok 0 _ rfl)
      clear nq
      go_wp2_with (refine wpList_push_T rfl (.tmp 68) (.tmp 71) 43 3 rfl (.int .i64 0) 1 8 Tryz.underlying43 info3 rfl (by decide) (.slice (some ⟨sg,sf,none⟩) (SN + 1) sc) (SN + 1) (stI (j :: τ0)) rfl HOW.out y2w.heap.size rfl [.int .i64 (q:Int)] rfl HCQ.out HOQ.out HM12.out HBq.out ?_)
      intro ao2 c8 w8 hown hg8 hat
      have h8:=HFq.out.push_que 0 rfl hown hg8 hat
      clear eq
      clear hown hg8 hat
      have HF8:=hid h8
      have hn9:(at_:Int) + 1 < 9223372036854775807:=by have:=HLL.out; have:=HLN.out; omega
      clear h8
      go_wp2_with fail
      obtain ⟨k',hk',hrn'⟩:=(HDR.out ▸ HRN.out).at_shift (HTT.out.2.2.2 (k:Int) (by rw [HDR.out]; rfl)) HACT.out
      refine ⟨⟨k',q :: j :: τ0,at_ + 1,SN + 1,by omega,rfl,hid hrn',hid ?_,hid (by rw [List.length_cons,HSN.out]),hid (HSHT.out q),hid ?_⟩,?_⟩
      ·obtain ⟨γ,hp⟩:=HPA.out
       rw [HQ.out.2]
       exact ⟨_,.more j τ0 γ (k:Int) hp HQ.out.1⟩
      ·rw [stI_cons]
       exact HF8.out
      ·show (minOf fun k=>_) < (minOf fun k=>_)
       rw [HKK.out]
       exact Nat.lt_of_le_of_lt (minOf_le ⟨q :: j :: τ0,at_ + 1,SN + 1,by omega,rfl,hid hrn',hid (by
        obtain ⟨γ,hp⟩:=HPA.out
        rw [HQ.out.2]
        exact ⟨_,.more j τ0 γ (k:Int) hp HQ.out.1⟩),hid (by rw [List.length_cons,HSN.out]),hid (HSHT.out q),hid (by rw [stI_cons]; exact HF8.out)⟩) (by omega)
     ·dsimp only at y0 y1
      have vn0:wa.heap[we.heap.size]?=some (.cells #[.int .i64 0,.int .i64 0] 91 (0,0)):=na
      have vc0:wa.cell? ⟨we.heap.size,0,none⟩=some (.int .i64 0):=coQ vn0 0
      have vf0:=foQ vn0 0
      obtain ⟨y1w,ve0⟩:=nmQ (wa.setCell ⟨we.heap.size,0,none⟩ (.int .i64 2))
      have vn1:y1w.heap[we.heap.size]?=some (.cells #[.int .i64 2,.int .i64 0] 91 (0,0)):=hsQ ve0 vn0
      have vc1:y1w.cell? ⟨we.heap.size,1,none⟩=some (.int .i64 0):=coQ vn1 1
      have vf1:=foQ vn1 1
      obtain ⟨y2w,ve1⟩:=nmQ (y1w.setCell ⟨we.heap.size,1,none⟩ (.int .i64 (p:Int)))
      have vn2:y2w.heap[we.heap.size]?=some (.cells #[.int .i64 2,.int .i64 (p:Int)] 91 (0,0)):=hsQ ve1 vn1
      have HBY:=hid (show Below wr.heap.size wr y2w from by
       rw [<-ve1,<-ve0]
       exact (hba.setCell HES.out _).setCell HES.out _)
      have HNY:=hid vn2
      have HH0:we.cell? ⟨b8,0,none⟩=some (.slice (some ⟨db,df,none⟩) m dvc)/\we.cell? ⟨sg,sf + SN,none⟩=some (.int .i64 (j:Int))/\we.cell? ⟨db,df + j,none⟩=some (.slice (some ⟨rb,rf,none⟩) (T + 1) rc)/\we.cell? ⟨rb,rf + k * 2,none⟩=some (.int .i64 2)/\we.cell? ⟨rb,rf + k * 2 + 1,none⟩=some (.int .i64 (p:Int)):=⟨cell_below hbe e8,cell_below hbe z0,cell_below hbe z1,cell_below hbe y0,cell_below hbe y1⟩
      have HH1:wa.cell? ⟨b8,0,none⟩=some (.slice (some ⟨db,df,none⟩) m dvc)/\wa.cell? ⟨sg,sf + SN,none⟩=some (.int .i64 (j:Int))/\wa.cell? ⟨db,df + j,none⟩=some (.slice (some ⟨rb,rf,none⟩) (T + 1) rc)/\wa.cell? ⟨rb,rf + k * 2,none⟩=some (.int .i64 2)/\wa.cell? ⟨rb,rf + k * 2 + 1,none⟩=some (.int .i64 (p:Int)):=⟨cell_below hba e8,cell_below hba z0,cell_below hba z1,cell_below hba y0,cell_below hba y1⟩
      have g0:y2w.cell? ⟨we.heap.size,0,none⟩=some (.int .i64 2):=coQ vn2 0
      have g1:y2w.cell? ⟨we.heap.size,1,none⟩=some (.int .i64 (p:Int)):=coQ vn2 1
      have HZ:=hid (And.intro z0 z1)
      clear vn0 vn1 vn2 na hbe hba z0 z1 y0 y1 e8
      go_wp2_with fail
      clear c0 c1 c2 c3 c4
      refine region_T 14 (fun w'=>w'.cell? ⟨b8,0,none⟩=some (.slice (some ⟨db,df,none⟩) m dvc)/\w'.cell? ⟨sg,sf + SN,none⟩=some (.int .i64 (j:Int))/\w'.cell? ⟨db,df + j,none⟩=some (.slice (some ⟨rb,rf,none⟩) (T + 1) rc)/\w'.cell? ⟨rb,rf + k * 2,none⟩=some (.int .i64 2)/\w'.cell? ⟨rb,rf + k * 2 + 1,none⟩=some (.int .i64 (p:Int))) (by kernel_rfl) (by rw [ewe]; exact HH0) (fun inv hHeld=>?_)
      rw [ewe]
      clear hHeld ewe
      iterate 13
       refine anyT_auto (v:=?_) rfl (by kernel_rfl) (fun _ _ _ h=>h) (Or.inl ⟨by rfl,?_⟩) HH0 inv (fun inv=>?_)
       rotate_left
       ·intro w hSw
        try dsimp only at hSw
        go_simp
        try with_reducible rfl
       simp only [Act.put,sjA,sj0,sjS]
      refine anyT_next (i:=13) (o:={dst:=some 13,op:=.alloc 91,type:=0,pos := "table.go:167",after:=#[],guard:=none}) (by kernel_rfl) rfl (by decide) inv (fun inv K' hK=>?_)
      go_simp
      refine hK.out _ _ HH1 ?_
      clear hK K' HH0
      try simp only [Act.put,sjA,sj0,sjS]
      refine anyT_one (i:=14) (o:={dst:=none,op:=.store 91 (.tmp 13) (.tmp 62),type:=0,pos := "table.go:167",after:=#[{on:=13,ground:=.data},{on:=12,ground:=.data},{on:=0,ground:=.phase},{on:=1,ground:=.phase},{on:=2,ground:=.phase},{on:=3,ground:=.phase},{on:=4,ground:=.phase},{on:=5,ground:=.phase},{on:=6,ground:=.phase},{on:=7,ground:=.phase},{on:=8,ground:=.phase},{on:=9,ground:=.phase},{on:=10,ground:=.phase},{on:=11,ground:=.phase},{on:=12,ground:=.phase},{on:=13,ground:=.phase}],guard:=none}) (by kernel_rfl) rfl (fun K' hK=>?_)
      go_simp
      refine hK.out _ _ (fun h=>absurd h (by decide)) ?_
      clear hK K'
      try simp only [Act.put,sjA,sj0,sjS]
      refine anyT_done (by kernel_rfl) ?_ _
      clear HH1
      clear vc0 vf0 vc1 vf1 ve0 ve1 ea
      have hWY:=HWW.out.trans (HBY.out.mono HWW.out.size)
      have HWY:=hid hWY
      obtain ⟨⟨c0,c1,c2,c3,c4⟩,_⟩:=HS.out y2w (HC5.out.trans ((HF.out.bel.trans (HBY.out.mono HF.out.bel.size)).mono HC5.out.size))
      obtain ⟨pb,pf,rfl,hp4⟩:=HPX.out (by omega)
      obtain ⟨x0,x1,x2,x3⟩:=hp4 p hp
      obtain ⟨P,hP⟩:=nmQ (G.prods.getD p default)
      have hPp:G.prods[p]?=some P:=by
       rw [<-hP,gdQ,geQ (by rw [HNP.out]; exact hp)]
       rfl
      have hri:=HRT.out p (by rw [HNP.out]; exact hp)
      rw [hP] at x0 x1 x3 hri
      obtain ⟨⟨ra,rac,hrv,_⟩,_⟩:=hri
      rw [hrv] at x2
      obtain ⟨RL,hRL⟩:=nmQ (P.rs.length)
      rw [hRL] at x2
      obtain ⟨k',τ',hkk',hrd,hrn'⟩:=HRN.out.at_red HTT.out.2.2.2 (by rw [HTT.out.2.2.1]; exact hact)
      obtain ⟨γ,hpa⟩:=HPA.out
      have hto:=HTO.out
      obtain ⟨τ1,ρ1,hσ,hne,htw,hρ⟩:=hto
      have htr:=htw.red HM.out (by rw [<-hσ]; exact hpa) hne (by rw [<-hσ]; exact hrd)
      obtain ⟨p',i',j',υ,q1,q2,q3,q4,q5,q6,q7,q8,q9,q10⟩:=LR.path_red HM.out hpa hrd
      obtain rfl:j=i':=Option.some.inj q1
      rw [HTT.out.2.2.1,hact] at q2
      obtain rfl:(p:Int)=p':=by injection q2
      have hrt:(mG G m D).rt (p:Int)=P.rs:=rt_at hPp
      have hsr:(mG G m D).srt (p:Int)=-1 - P.sort:=srt_at hPp
      rw [hrt,hRL] at q7
      have hwant:=HM.out.want j' p q8 q4
      have hrow:=row_of HH.out.1 hPp
      rw [hsr] at hwant q10
      obtain ⟨s,hs⟩:∃ s:Nat,P.sort=(s:Int):=⟨P.sort.toNat,by omega⟩
      rw [hs] at x1 hwant q10 hrow
      obtain ⟨S,hS⟩:=nmQ (G.sorts.length)
      rw [hS] at hrow
      have hgt:=go_to HH.out.2.1 (i:=j') (s:=-1 - (s:Int)) hwant
      obtain ⟨hj',qn,hq1,_,hq3,_⟩:=hgt
      have hto2:(mG G m D).to j' (-1 - (s:Int))=qn:=by show (goX G (iterB G m).nx (j':Int) (-1 - (s:Int))).toNat=qn; rw [hq1]; rfl
      rw [hto2] at q10
      subst q10
      obtain ⟨K1,hK1⟩:=nmQ (υ.length)
      have hlen:SN + 1=RL + (K1 + 1):=by
       have h1:=congrArg List.length q7
       have h2:=HSN.out
       rw [List.length_drop,h2,List.length_cons,hK1] at h1
       omega
      have HRD:=hid (show kk=k' + 1/\LR.RunsN (mG G m D) (fun t=>0<=t/\t < (T:Int)) k' (qn :: j' :: υ) (l.drop at_) b r/\(∃ τ ρ,qn :: j' :: υ=τ ++ ρ/\τ ≠ []/\LR.Tower (mG G m D) (LR.hd (l.drop at_)) τ/\ρ.length<=at_ * (m + 1))/\(∃ γ,LR.Path (mG G m D) (qn :: j' :: υ) γ) from
       ⟨hkk',hrn',by
        obtain ⟨a1,a2,a3,a4,a5,a6⟩:=htr
        exact ⟨a1,a2,a3,a4,a5,Nat.le_trans a6 hρ⟩,by
        have:=LR.Path.more (M:=mG G m D) j' υ _ (-1 - (s:Int)) q9 hwant
        rw [hto2] at this
        exact ⟨_,this⟩⟩)
      have HLN2:=hid hK1
      have HCT:=hid (show (stI (j :: τ0)).take (K1 + 1)=stI (j' :: υ) from by
       have h1:=stI_take q7
       rw [HSN.out,show SN + 1 - RL=K1 + 1 by omega] at h1
       exact h1)
      obtain ⟨nb,nf,un,rfl,v1,v2⟩:=HTB.out.2.at_ hj'
      obtain ⟨⟨xo,xc,rfl,_,hxo⟩,_⟩:=v2
      have hnl:(nextX G (iterB G m).nx j' G.sorts.length).length=S:=by unfold nextX; simp [hS]
      rw [hnl] at v1 hxo
      have hs2:s < S:=by omega
      obtain ⟨xb,xf,rfl,hxe⟩:=hxo (by omega)
      have hxs:w3.cell? ⟨xb,xf + s,none⟩=some (.int .i64 ((nextX G (iterB G m).nx j' G.sorts.length).getD s 0)):=hxe s hs2
      have hgv:(nextX G (iterB G m).nx j' G.sorts.length).getD s 0=(qn:Int):=by
       unfold nextX
       rw [gdQ,List.getElem?_map,List.getElem?_range (by rw [hS]; exact hs2)]
       exact hq1
      rw [hgv] at hxs
      have HV1:=hid (cell_below HW5.out v1)
      have HXS:=hid (cell_below HW5.out hxs)
      have HJ:=hid (show (j':Int) < (m:Int)/\s < S/\(s:Int) < (S:Int) from ⟨by omega,hs2,by omega⟩)
      replace x0:=cell_below hWY x0
      replace x1:=cell_below hWY x1
      replace x2:=cell_below hWY x2
      replace x3:=cell_below hWY x3
      have p0:(0:Int)<=(p:Int):=by omega
      have p1:(p:Int) < (NP:Int):=by omega
      clear hp4 hP hPp hrv hrd hrn' hpa htr q1 q2 q3 q4 q5 q6 q7 q8 q9 hrt hsr hwant hrow hs hj' hq1 hq3 hto2 hK1 hσ hne htw hρ hkk' v1 hxo hxe hxs hgv hnl hS hact hRL hWY
      obtain ⟨p4w,eya⟩:=nmQ (y2w.alloc (.cells #[.string P.lab,.int .i64 (s:Int),.slice ra RL rac,.int .i64 P.cls] 71))
      have pn4:p4w.heap[y2w.heap.size]?=some (.cells #[.string P.lab,.int .i64 (s:Int),.slice ra RL rac,.int .i64 P.cls] 71 (0,0)):=nbQ eya
      have HBP:=hid (show Below y2w.heap.size y2w p4w from by exact baQ eya)
      have HNP4:=hid pn4
      have f1p:p4w.cell? ⟨y2w.heap.size,1,none⟩=some (.int .i64 (s:Int)):=coQ pn4 1
      have f2p:p4w.cell? ⟨y2w.heap.size,2,none⟩=some (.slice ra RL rac):=coQ pn4 2
      have HFp:=hid ((HF.out.below HBY.out).below HBP.out)
      have hwr2:IntKind.i64.wrap ((SN:Int) + 1 - (RL:Int))=(K1:Int) + 1:=by
       have:=HM12.out
       rw [IntKind.wrap_i64]
       omega
      have k10:(0:Int)<=(K1:Int) + 1:=by omega
      have hcp:=HCAP.out
      have k11:(K1:Int) + 1<=(sc:Int):=by omega
      have k12:K1 + 1<=sc:=by omega
      have hFc:Foot w5.heap.size w5 p4w [queI w5.heap.size 1 (.slice (some ⟨sg,sf,none⟩) (K1 + 1) sc) (K1 + 1) (stI (j' :: υ))]:=by
       have h1:=(show ownsT p4w w5.heap.size 1 (.slice (some ⟨sg,sf,none⟩) (SN + 1) sc) (SN + 1) (stI (j :: τ0)) from HFp.out.ok 0 _ rfl)
       have h2:=own_take h1 (show K1 + 1<=SN + 1 by omega)
       rw [Nat.mul_one,HCT.out] at h2
       exact HFp.out.say 0 rfl (queI w5.heap.size 1 (.slice (some ⟨sg,sf,none⟩) (K1 + 1) sc) (K1 + 1) (stI (j' :: υ))) h2 (fun b hb=>hb)
      have HFc:=hid hFc
      have HSJ:=hid (show p4w.cell? ⟨sg,sf + K1,none⟩=some (.int .i64 (j':Int)) from by
       obtain ⟨g,off,e,hc⟩:=ownsT_cell (show ownsT p4w w5.heap.size 1 (.slice (some ⟨sg,sf,none⟩) (K1 + 1) sc) (K1 + 1) _ from hFc.ok 0 _ rfl) (by omega)
       cases e
       exact hc K1 _ (stI_top HLN2.out))
      have HK12:=hid (show K1 + 1<=1000000000000 from by have:=HM12.out; omega)
      clear pn4 hFc hlen hcp
      obtain ⟨e8,e8b,_⟩:=HD5.out p4w ((HF.out.bel.trans (HBY.out.mono HF.out.bel.size)).trans (HBP.out.mono (HF.out.bel.trans (HBY.out.mono HF.out.bel.size)).size))
      obtain ⟨wf,ewf⟩:=nmQ (p4w.drew)
      have hbf:Below p4w.heap.size p4w wf:=bdQ ewf
      obtain ⟨wq,eq⟩:=nmQ (wf.alloc (.cells #[.int .i64 (qn:Int)] 3))
      have nq:wq.heap[wf.heap.size]?=some (.cells #[.int .i64 (qn:Int)] 3 (0,0)):=nbQ eq
      have hbq:Below p4w.heap.size p4w wq:=hbf.trans ((by exact baQ eq:Below wf.heap.size wf wq).mono hbf.size)
      have HFq:=hid (HFc.out.below hbq)
      have hv1:=cell_below HBP.out (cell_below HBY.out HV1.out)
      have hxs:=cell_below HBP.out (cell_below HBY.out HXS.out)
      have HI0:wf.cell? ⟨b8,1,none⟩=some (.slice (some ⟨nb,nf,none⟩) m nvc)/\wf.cell? ⟨sg,sf + K1,none⟩=some (.int .i64 (j':Int))/\wf.cell? ⟨nb,nf + j',none⟩=some (.slice (some ⟨xb,xf,none⟩) S xc)/\wf.cell? ⟨y2w.heap.size,1,none⟩=some (.int .i64 (s:Int))/\wf.cell? ⟨xb,xf + s,none⟩=some (.int .i64 (qn:Int)):=⟨cell_below hbf e8b,cell_below hbf HSJ.out,cell_below hbf hv1,cell_below hbf f1p,cell_below hbf hxs⟩
      have HI1:wq.cell? ⟨b8,1,none⟩=some (.slice (some ⟨nb,nf,none⟩) m nvc)/\wq.cell? ⟨sg,sf + K1,none⟩=some (.int .i64 (j':Int))/\wq.cell? ⟨nb,nf + j',none⟩=some (.slice (some ⟨xb,xf,none⟩) S xc)/\wq.cell? ⟨y2w.heap.size,1,none⟩=some (.int .i64 (s:Int))/\wq.cell? ⟨xb,xf + s,none⟩=some (.int .i64 (qn:Int)):=⟨cell_below hbq e8b,cell_below hbq HSJ.out,cell_below hbq hv1,cell_below hbq f1p,cell_below hbq hxs⟩
      have HCQ:=hid (show ∀ j u,([.int .i64 (qn:Int)]:List Value)[j]?=some u->wq.cell? ⟨wf.heap.size,j,none⟩=some u from fun j u hi=>by
       rw [coQ nq,<-hi,<-List.getElem?_toArray])
      have HOQ:=hid (show ∀ x ∈ ([.int .i64 (qn:Int)]:List Value),x.oneCell'=true from fun q hq=>by rw [List.mem_singleton.1 hq]; rfl)
      have HBq:=hid (show w5.heap.size<=wq.heap.size from Nat.le_trans HFq.out.le HFq.out.bel.size)
      have HOW:=hid (show ownsT wq w5.heap.size 1 (.slice (some ⟨sg,sf,none⟩) (K1 + 1) sc) (K1 + 1) (stI (j' :: υ)) from HFq.out.ok 0 _ rfl)
      have hwr3:IntKind.i64.wrap (K1:Int)=(K1:Int):=by
       have:=HK12.out
       rw [IntKind.wrap_i64]
       omega
      have k20:(0:Int)<=(K1:Int):=by omega
      have k21:(K1:Int) < (K1:Int) + 1:=by omega
      have j20:(0:Int)<=(j':Int):=by omega
      have j21:=HJ.out.1
      have s20:(0:Int)<=(s:Int):=by omega
      have s21:=HJ.out.2.2
      clear nq hbq hbf hv1 hxs
      go_wp2_with fail
      clear c0 c1 c2 c3 c4 e8 e8b
      refine region_T 16 (fun w'=>w'.cell? ⟨b8,1,none⟩=some (.slice (some ⟨nb,nf,none⟩) m nvc)/\w'.cell? ⟨sg,sf + K1,none⟩=some (.int .i64 (j':Int))/\w'.cell? ⟨nb,nf + j',none⟩=some (.slice (some ⟨xb,xf,none⟩) S xc)/\w'.cell? ⟨y2w.heap.size,1,none⟩=some (.int .i64 (s:Int))/\w'.cell? ⟨xb,xf + s,none⟩=some (.int .i64 (qn:Int))) (by kernel_rfl) (by rw [ewf]; exact HI0) (fun inv hHeld=>?_)
      rw [ewf]
      clear hHeld ewf
      iterate 15
       refine anyT_auto (v:=?_) rfl (by kernel_rfl) (fun _ _ _ h=>h) (Or.inl ⟨by rfl,?_⟩) HI0 inv (fun inv=>?_)
       rotate_left
       ·intro w hSw
        try dsimp only at hSw
        go_simp
        try with_reducible rfl
       simp only [Act.put,sjA,sj0,sjS]
      refine anyT_next (i:=15) (o:={dst:=some 106,op:=.buildSlice 43 1 #[(0,.tmp 105)],type:=43,pos := "table.go:174",after:=#[{on:=14,ground:=.data}],guard:=none}) (by kernel_rfl) rfl (by decide) inv (fun inv K' hK=>?_)
      go_simp
      refine hK.out _ _ HI1 ?_
      clear hK K' HI0
      try simp only [Act.put,sjA,sj0,sjS]
      refine anyT_one (i:=16) (o:={dst:=some 107,op:=.call {callee:=.builtin .append,args:=#[.tmp 91,.tmp 106],argTypes:=#[43,43]},type:=43,pos := "table.go:174",after:=#[{on:=0,ground:=.data},{on:=15,ground:=.data}],guard:=none}) (by kernel_rfl) rfl (fun K' hK=>?_)
      simp only [Region.wanted]
      rw [if_pos trivial]
      refine wp_push_T (.tmp 91) (.tmp 106) 43 3 rfl (.int .i64 0) 1 8 Tryz.underlying43 info3 rfl (by decide) (.slice (some ⟨sg,sf,none⟩) (K1 + 1) sc) (K1 + 1) (stI (j' :: υ)) rfl HOW.out wf.heap.size rfl [.int .i64 (qn:Int)] rfl HCQ.out HOQ.out HK12.out HBq.out ?_
      intro ao2 c8 w8 hown hg8 hat2
      have h8:=HFq.out.push_que 0 rfl hown hg8 hat2
      refine hK.out _ _ (fun h=>absurd h (by decide)) ?_
      clear hK K' HI1 hown hg8 hat2
      try simp only [Act.put,sjA,sj0,sjS]
      refine anyT_one (i:=17) (o:={dst:=some 10,op:=.assign (.tmp 107),type:=43,pos := "table.go:174",after:=#[{on:=16,ground:=.data},{on:=16,ground:=.chain},{on:=0,ground:=.phase},{on:=1,ground:=.phase},{on:=2,ground:=.phase},{on:=3,ground:=.phase},{on:=4,ground:=.phase},{on:=5,ground:=.phase},{on:=6,ground:=.phase},{on:=7,ground:=.phase},{on:=8,ground:=.phase},{on:=9,ground:=.phase},{on:=10,ground:=.phase},{on:=11,ground:=.phase},{on:=12,ground:=.phase},{on:=13,ground:=.phase},{on:=14,ground:=.phase},{on:=15,ground:=.phase},{on:=16,ground:=.phase}],guard:=none}) (by kernel_rfl) rfl (fun K' hK=>?_)
      go_simp
      refine hK.out _ _ (fun h=>absurd h (by decide)) ?_
      clear hK K'
      try simp only [Act.put,sjA,sj0,sjS]
      refine anyT_done (by kernel_rfl) ?_ _
      have HF8:=hid h8
      clear h8 eq
      go_wp2_with fail
      refine ⟨⟨k',qn :: j' :: υ,at_,K1 + 1,hat,rfl,hid HRD.out.2.1,hid HRD.out.2.2.2,hid (by rw [List.length_cons,List.length_cons,HLN2.out]),hid HRD.out.2.2.1,hid (by rw [stI_cons]; exact HF8.out)⟩,?_⟩
      show (minOf fun k=>_) < (minOf fun k=>_)
      rw [HKK.out]
      exact Nat.lt_of_le_of_lt (minOf_le ⟨qn :: j' :: υ,at_,K1 + 1,hat,rfl,hid HRD.out.2.1,hid HRD.out.2.2.2,hid (by rw [List.length_cons,List.length_cons,HLN2.out]),hid HRD.out.2.2.1,hid (by rw [stI_cons]; exact HF8.out)⟩) (by have:=HRD.out.1; omega)
     ·dsimp only at y0 y1
      have vn0:wa.heap[we.heap.size]?=some (.cells #[.int .i64 0,.int .i64 0] 91 (0,0)):=na
      have vc0:wa.cell? ⟨we.heap.size,0,none⟩=some (.int .i64 0):=coQ vn0 0
      have vf0:=foQ vn0 0
      obtain ⟨y1w,ve0⟩:=nmQ (wa.setCell ⟨we.heap.size,0,none⟩ (.int .i64 3))
      have vn1:y1w.heap[we.heap.size]?=some (.cells #[.int .i64 3,.int .i64 0] 91 (0,0)):=hsQ ve0 vn0
      have vc1:y1w.cell? ⟨we.heap.size,1,none⟩=some (.int .i64 0):=coQ vn1 1
      have vf1:=foQ vn1 1
      obtain ⟨y2w,ve1⟩:=nmQ (y1w.setCell ⟨we.heap.size,1,none⟩ (.int .i64 0))
      have vn2:y2w.heap[we.heap.size]?=some (.cells #[.int .i64 3,.int .i64 0] 91 (0,0)):=hsQ ve1 vn1
      have HBY:=hid (show Below wr.heap.size wr y2w from by
       rw [<-ve1,<-ve0]
       exact (hba.setCell HES.out _).setCell HES.out _)
      have HNY:=hid vn2
      have HH0:we.cell? ⟨b8,0,none⟩=some (.slice (some ⟨db,df,none⟩) m dvc)/\we.cell? ⟨sg,sf + SN,none⟩=some (.int .i64 (j:Int))/\we.cell? ⟨db,df + j,none⟩=some (.slice (some ⟨rb,rf,none⟩) (T + 1) rc)/\we.cell? ⟨rb,rf + k * 2,none⟩=some (.int .i64 3)/\we.cell? ⟨rb,rf + k * 2 + 1,none⟩=some (.int .i64 0):=⟨cell_below hbe e8,cell_below hbe z0,cell_below hbe z1,cell_below hbe y0,cell_below hbe y1⟩
      have HH1:wa.cell? ⟨b8,0,none⟩=some (.slice (some ⟨db,df,none⟩) m dvc)/\wa.cell? ⟨sg,sf + SN,none⟩=some (.int .i64 (j:Int))/\wa.cell? ⟨db,df + j,none⟩=some (.slice (some ⟨rb,rf,none⟩) (T + 1) rc)/\wa.cell? ⟨rb,rf + k * 2,none⟩=some (.int .i64 3)/\wa.cell? ⟨rb,rf + k * 2 + 1,none⟩=some (.int .i64 0):=⟨cell_below hba e8,cell_below hba z0,cell_below hba z1,cell_below hba y0,cell_below hba y1⟩
      have g0:y2w.cell? ⟨we.heap.size,0,none⟩=some (.int .i64 3):=coQ vn2 0
      have g1:y2w.cell? ⟨we.heap.size,1,none⟩=some (.int .i64 0):=coQ vn2 1
      have HZ:=hid (And.intro z0 z1)
      clear vn0 vn1 vn2 na hbe hba z0 z1 y0 y1 e8
      go_wp2_with fail
      clear c0 c1 c2 c3 c4
      refine region_T 14 (fun w'=>w'.cell? ⟨b8,0,none⟩=some (.slice (some ⟨db,df,none⟩) m dvc)/\w'.cell? ⟨sg,sf + SN,none⟩=some (.int .i64 (j:Int))/\w'.cell? ⟨db,df + j,none⟩=some (.slice (some ⟨rb,rf,none⟩) (T + 1) rc)/\w'.cell? ⟨rb,rf + k * 2,none⟩=some (.int .i64 3)/\w'.cell? ⟨rb,rf + k * 2 + 1,none⟩=some (.int .i64 0)) (by kernel_rfl) (by rw [ewe]; exact HH0) (fun inv hHeld=>?_)
      rw [ewe]
      clear hHeld ewe
      iterate 13
       refine anyT_auto (v:=?_) rfl (by kernel_rfl) (fun _ _ _ h=>h) (Or.inl ⟨by rfl,?_⟩) HH0 inv (fun inv=>?_)
       rotate_left
       ·intro w hSw
        try dsimp only at hSw
        go_simp
        try with_reducible rfl
       simp only [Act.put,sjA,sj0,sjS]
      refine anyT_next (i:=13) (o:={dst:=some 13,op:=.alloc 91,type:=0,pos := "table.go:167",after:=#[],guard:=none}) (by kernel_rfl) rfl (by decide) inv (fun inv K' hK=>?_)
      go_simp
      refine hK.out _ _ HH1 ?_
      clear hK K' HH0
      try simp only [Act.put,sjA,sj0,sjS]
      refine anyT_one (i:=14) (o:={dst:=none,op:=.store 91 (.tmp 13) (.tmp 62),type:=0,pos := "table.go:167",after:=#[{on:=13,ground:=.data},{on:=12,ground:=.data},{on:=0,ground:=.phase},{on:=1,ground:=.phase},{on:=2,ground:=.phase},{on:=3,ground:=.phase},{on:=4,ground:=.phase},{on:=5,ground:=.phase},{on:=6,ground:=.phase},{on:=7,ground:=.phase},{on:=8,ground:=.phase},{on:=9,ground:=.phase},{on:=10,ground:=.phase},{on:=11,ground:=.phase},{on:=12,ground:=.phase},{on:=13,ground:=.phase}],guard:=none}) (by kernel_rfl) rfl (fun K' hK=>?_)
      go_simp
      refine hK.out _ _ (fun h=>absurd h (by decide)) ?_
      clear hK K'
      try simp only [Act.put,sjA,sj0,sjS]
      refine anyT_done (by kernel_rfl) ?_ _
      clear HH1
      clear vc0 vf0 vc1 vf1 ve0 ve1 ea
      have HRES:=hid (show b=true/\r=l.drop at_ from HRN.out.at_acc HTT.out.2.2.2 (by rw [HTT.out.2.2.1]; exact hact))
      have HNN:=hid (show ((LN - r.length:Nat):Int)=(at_:Int) from by rw [HRES.out.2,List.length_drop,HLN.out]; omega)
      go_wp2_with fail
      refine bodyPost_ret (results_tmp2 rfl _ _ _) rfl ?_
      refine ⟨?_,HWW.out.trans (HBY.out.mono HWW.out.size)⟩
      rw [HNN.out,HRES.out.1]
      rfl
  ·have a1:¬ (at_:Int) < (LN:Int):=by omega
   have d1:decide ((at_:Int) < (LN:Int))=false:=decide_eq_false a1
   obtain rfl:at_=LN:=by omega
   obtain ⟨k,hkT⟩:=nmQ (T)
   have HDR:=hid (show l.drop at_=[] from List.drop_eq_nil_of_le (by rw [HLN.out]; exact Nat.le_refl _))
   have HTT:=hid (show ((63:Int)=63\/0<=(63:Int)/\(63:Int) < (T:Int))/\colX T 63=T/\LR.hd (l.drop at_)=63/\∀ t ∈ (l.drop at_).head?,0<=t/\t < (T:Int) from
    ⟨.inl rfl,rfl,by rw [HDR.out]; rfl,by rw [HDR.out]; intro t ht; cases ht⟩)
   clear hkT
   obtain ⟨rb,rf,rfl,y0,y1⟩:=(show ItemsAt wr (.slice ro (T + 1) rc) (onlyX (D j) (T + 1) (T + 1)) from HU2.out.below HW5.out).at_ (k:=T) (x:=(D j T).headD (0,0)) (by rw [onlyX_get (by omega),if_pos (by omega)])
   obtain ⟨xx,hxx⟩:=nmQ ((D j T).headD (0,0))
   rw [hxx] at y0 y1
   have hcs:=deed_cases HH.out.1 HH.out.2.1 HH.out.2.2.1 (i:=j) (t:=63) hj (by rw [HTL.out]; exact HTT.out.1) (x:=xx) (by rw [HTL.out,HTT.out.2.1,HDD.out]; exact hxx)
   rw [HTL.out,HDD.out,HNP.out] at hcs
   have k1:(T:Int) < (T:Int) + 1:=by omega
   have k2:T < T + 1:=by omega
   have k0:(0:Int)<=(T:Int):=by omega
   clear hxx
   obtain ⟨we,ewe⟩:=nmQ (wr.drew)
   have hbe:Below wr.heap.size wr we:=bdQ ewe
   obtain ⟨wa,ea⟩:=nmQ (we.alloc (.cells #[.int .i64 0,.int .i64 0] 91))
   have na:wa.heap[we.heap.size]?=some (.cells #[.int .i64 0,.int .i64 0] 91 (0,0)):=nbQ ea
   have hba:Below wr.heap.size wr wa:=hbe.trans ((by exact baQ ea:Below we.heap.size we wa).mono hbe.size)
   obtain ⟨e8,_,_⟩:=HD5.out wr HF.out.bel
   have HES:=hid hbe.size
   rcases hcs with ⟨rfl,hact⟩ | ⟨q,rfl,hq,ht0,ht1,hgo,hqt,hact⟩ | ⟨p,rfl,hp,hact⟩ | ⟨rfl,hact⟩
   ·dsimp only at y0 y1
    have vn0:wa.heap[we.heap.size]?=some (.cells #[.int .i64 0,.int .i64 0] 91 (0,0)):=na
    have vc0:wa.cell? ⟨we.heap.size,0,none⟩=some (.int .i64 0):=coQ vn0 0
    have vf0:=foQ vn0 0
    obtain ⟨y1w,ve0⟩:=nmQ (wa.setCell ⟨we.heap.size,0,none⟩ (.int .i64 0))
    have vn1:y1w.heap[we.heap.size]?=some (.cells #[.int .i64 0,.int .i64 0] 91 (0,0)):=hsQ ve0 vn0
    have vc1:y1w.cell? ⟨we.heap.size,1,none⟩=some (.int .i64 0):=coQ vn1 1
    have vf1:=foQ vn1 1
    obtain ⟨y2w,ve1⟩:=nmQ (y1w.setCell ⟨we.heap.size,1,none⟩ (.int .i64 0))
    have vn2:y2w.heap[we.heap.size]?=some (.cells #[.int .i64 0,.int .i64 0] 91 (0,0)):=hsQ ve1 vn1
    have HBY:=hid (show Below wr.heap.size wr y2w from by
     rw [<-ve1,<-ve0]
     exact (hba.setCell HES.out _).setCell HES.out _)
    have HNY:=hid vn2
    have HH0:we.cell? ⟨b8,0,none⟩=some (.slice (some ⟨db,df,none⟩) m dvc)/\we.cell? ⟨sg,sf + SN,none⟩=some (.int .i64 (j:Int))/\we.cell? ⟨db,df + j,none⟩=some (.slice (some ⟨rb,rf,none⟩) (T + 1) rc)/\we.cell? ⟨rb,rf + T * 2,none⟩=some (.int .i64 0)/\we.cell? ⟨rb,rf + T * 2 + 1,none⟩=some (.int .i64 0):=⟨cell_below hbe e8,cell_below hbe z0,cell_below hbe z1,cell_below hbe y0,cell_below hbe y1⟩
    have HH1:wa.cell? ⟨b8,0,none⟩=some (.slice (some ⟨db,df,none⟩) m dvc)/\wa.cell? ⟨sg,sf + SN,none⟩=some (.int .i64 (j:Int))/\wa.cell? ⟨db,df + j,none⟩=some (.slice (some ⟨rb,rf,none⟩) (T + 1) rc)/\wa.cell? ⟨rb,rf + T * 2,none⟩=some (.int .i64 0)/\wa.cell? ⟨rb,rf + T * 2 + 1,none⟩=some (.int .i64 0):=⟨cell_below hba e8,cell_below hba z0,cell_below hba z1,cell_below hba y0,cell_below hba y1⟩
    have g0:y2w.cell? ⟨we.heap.size,0,none⟩=some (.int .i64 0):=coQ vn2 0
    have g1:y2w.cell? ⟨we.heap.size,1,none⟩=some (.int .i64 0):=coQ vn2 1
    have HZ:=hid (And.intro z0 z1)
    clear vn0 vn1 vn2 na hbe hba z0 z1 y0 y1 e8
    go_wp2_with fail
    clear c0 c1 c2 c3 c4
    refine region_T 14 (fun w'=>w'.cell? ⟨b8,0,none⟩=some (.slice (some ⟨db,df,none⟩) m dvc)/\w'.cell? ⟨sg,sf + SN,none⟩=some (.int .i64 (j:Int))/\w'.cell? ⟨db,df + j,none⟩=some (.slice (some ⟨rb,rf,none⟩) (T + 1) rc)/\w'.cell? ⟨rb,rf + T * 2,none⟩=some (.int .i64 0)/\w'.cell? ⟨rb,rf + T * 2 + 1,none⟩=some (.int .i64 0)) (by kernel_rfl) (by rw [ewe]; exact HH0) (fun inv hHeld=>?_)
    rw [ewe]
    clear hHeld ewe
    iterate 13
     refine anyT_auto (v:=?_) rfl (by kernel_rfl) (fun _ _ _ h=>h) (Or.inl ⟨by rfl,?_⟩) HH0 inv (fun inv=>?_)
     rotate_left
     ·intro w hSw
      try dsimp only at hSw
      go_simp
      try with_reducible rfl
     simp only [Act.put,sjA,sj0,sjS]
    refine anyT_next (i:=13) (o:={dst:=some 13,op:=.alloc 91,type:=0,pos := "table.go:167",after:=#[],guard:=none}) (by kernel_rfl) rfl (by decide) inv (fun inv K' hK=>?_)
    go_simp
    refine hK.out _ _ HH1 ?_
    clear hK K' HH0
    try simp only [Act.put,sjA,sj0,sjS]
    refine anyT_one (i:=14) (o:={dst:=none,op:=.store 91 (.tmp 13) (.tmp 62),type:=0,pos := "table.go:167",after:=#[{on:=13,ground:=.data},{on:=12,ground:=.data},{on:=0,ground:=.phase},{on:=1,ground:=.phase},{on:=2,ground:=.phase},{on:=3,ground:=.phase},{on:=4,ground:=.phase},{on:=5,ground:=.phase},{on:=6,ground:=.phase},{on:=7,ground:=.phase},{on:=8,ground:=.phase},{on:=9,ground:=.phase},{on:=10,ground:=.phase},{on:=11,ground:=.phase},{on:=12,ground:=.phase},{on:=13,ground:=.phase}],guard:=none}) (by kernel_rfl) rfl (fun K' hK=>?_)
    go_simp
    refine hK.out _ _ (fun h=>absurd h (by decide)) ?_
    clear hK K'
    try simp only [Act.put,sjA,sj0,sjS]
    refine anyT_done (by kernel_rfl) ?_ _
    clear HH1
    clear vc0 vf0 vc1 vf1 ve0 ve1 ea
    have HRES:=hid (show b=false/\r=l.drop at_ from HRN.out.at_wrong HTT.out.2.2.2 (by rw [HTT.out.2.2.1]; exact hact))
    have HNN:=hid (show ((at_ - r.length:Nat):Int)=(at_:Int) from by rw [HRES.out.2,List.length_drop,HLN.out]; omega)
    go_wp2_with fail
    refine bodyPost_ret (results_tmp2 rfl _ _ _) rfl ?_
    refine ⟨?_,HWW.out.trans (HBY.out.mono HWW.out.size)⟩
    rw [HNN.out,HRES.out.1]
    rfl
   ·exfalso
    omega
   ·dsimp only at y0 y1
    have vn0:wa.heap[we.heap.size]?=some (.cells #[.int .i64 0,.int .i64 0] 91 (0,0)):=na
    have vc0:wa.cell? ⟨we.heap.size,0,none⟩=some (.int .i64 0):=coQ vn0 0
    have vf0:=foQ vn0 0
    obtain ⟨y1w,ve0⟩:=nmQ (wa.setCell ⟨we.heap.size,0,none⟩ (.int .i64 2))
    have vn1:y1w.heap[we.heap.size]?=some (.cells #[.int .i64 2,.int .i64 0] 91 (0,0)):=hsQ ve0 vn0
    have vc1:y1w.cell? ⟨we.heap.size,1,none⟩=some (.int .i64 0):=coQ vn1 1
    have vf1:=foQ vn1 1
    obtain ⟨y2w,ve1⟩:=nmQ (y1w.setCell ⟨we.heap.size,1,none⟩ (.int .i64 (p:Int)))
    have vn2:y2w.heap[we.heap.size]?=some (.cells #[.int .i64 2,.int .i64 (p:Int)] 91 (0,0)):=hsQ ve1 vn1
    have HBY:=hid (show Below wr.heap.size wr y2w from by
     rw [<-ve1,<-ve0]
     exact (hba.setCell HES.out _).setCell HES.out _)
    have HNY:=hid vn2
    have HH0:we.cell? ⟨b8,0,none⟩=some (.slice (some ⟨db,df,none⟩) m dvc)/\we.cell? ⟨sg,sf + SN,none⟩=some (.int .i64 (j:Int))/\we.cell? ⟨db,df + j,none⟩=some (.slice (some ⟨rb,rf,none⟩) (T + 1) rc)/\we.cell? ⟨rb,rf + T * 2,none⟩=some (.int .i64 2)/\we.cell? ⟨rb,rf + T * 2 + 1,none⟩=some (.int .i64 (p:Int)):=⟨cell_below hbe e8,cell_below hbe z0,cell_below hbe z1,cell_below hbe y0,cell_below hbe y1⟩
    have HH1:wa.cell? ⟨b8,0,none⟩=some (.slice (some ⟨db,df,none⟩) m dvc)/\wa.cell? ⟨sg,sf + SN,none⟩=some (.int .i64 (j:Int))/\wa.cell? ⟨db,df + j,none⟩=some (.slice (some ⟨rb,rf,none⟩) (T + 1) rc)/\wa.cell? ⟨rb,rf + T * 2,none⟩=some (.int .i64 2)/\wa.cell? ⟨rb,rf + T * 2 + 1,none⟩=some (.int .i64 (p:Int)):=⟨cell_below hba e8,cell_below hba z0,cell_below hba z1,cell_below hba y0,cell_below hba y1⟩
    have g0:y2w.cell? ⟨we.heap.size,0,none⟩=some (.int .i64 2):=coQ vn2 0
    have g1:y2w.cell? ⟨we.heap.size,1,none⟩=some (.int .i64 (p:Int)):=coQ vn2 1
    have HZ:=hid (And.intro z0 z1)
    clear vn0 vn1 vn2 na hbe hba z0 z1 y0 y1 e8
    go_wp2_with fail
    clear c0 c1 c2 c3 c4
    refine region_T 14 (fun w'=>w'.cell? ⟨b8,0,none⟩=some (.slice (some ⟨db,df,none⟩) m dvc)/\w'.cell? ⟨sg,sf + SN,none⟩=some (.int .i64 (j:Int))/\w'.cell? ⟨db,df + j,none⟩=some (.slice (some ⟨rb,rf,none⟩) (T + 1) rc)/\w'.cell? ⟨rb,rf + T * 2,none⟩=some (.int .i64 2)/\w'.cell? ⟨rb,rf + T * 2 + 1,none⟩=some (.int .i64 (p:Int))) (by kernel_rfl) (by rw [ewe]; exact HH0) (fun inv hHeld=>?_)
    rw [ewe]
    clear hHeld ewe
    iterate 13
     refine anyT_auto (v:=?_) rfl (by kernel_rfl) (fun _ _ _ h=>h) (Or.inl ⟨by rfl,?_⟩) HH0 inv (fun inv=>?_)
     rotate_left
     ·intro w hSw
      try dsimp only at hSw
      go_simp
      try with_reducible rfl
     simp only [Act.put,sjA,sj0,sjS]
    refine anyT_next (i:=13) (o:={dst:=some 13,op:=.alloc 91,type:=0,pos := "table.go:167",after:=#[],guard:=none}) (by kernel_rfl) rfl (by decide) inv (fun inv K' hK=>?_)
    go_simp
    refine hK.out _ _ HH1 ?_
    clear hK K' HH0
    try simp only [Act.put,sjA,sj0,sjS]
    refine anyT_one (i:=14) (o:={dst:=none,op:=.store 91 (.tmp 13) (.tmp 62),type:=0,pos := "table.go:167",after:=#[{on:=13,ground:=.data},{on:=12,ground:=.data},{on:=0,ground:=.phase},{on:=1,ground:=.phase},{on:=2,ground:=.phase},{on:=3,ground:=.phase},{on:=4,ground:=.phase},{on:=5,ground:=.phase},{on:=6,ground:=.phase},{on:=7,ground:=.phase},{on:=8,ground:=.phase},{on:=9,ground:=.phase},{on:=10,ground:=.phase},{on:=11,ground:=.phase},{on:=12,ground:=.phase},{on:=13,ground:=.phase}],guard:=none}) (by kernel_rfl) rfl (fun K' hK=>?_)
    go_simp
    refine hK.out _ _ (fun h=>absurd h (by decide)) ?_
    clear hK K'
    try simp only [Act.put,sjA,sj0,sjS]
    refine anyT_done (by kernel_rfl) ?_ _
    clear HH1
    clear vc0 vf0 vc1 vf1 ve0 ve1 ea
    have hWY:=HWW.out.trans (HBY.out.mono HWW.out.size)
    have HWY:=hid hWY
    obtain ⟨⟨c0,c1,c2,c3,c4⟩,_⟩:=HS.out y2w (HC5.out.trans ((HF.out.bel.trans (HBY.out.mono HF.out.bel.size)).mono HC5.out.size))
    obtain ⟨pb,pf,rfl,hp4⟩:=HPX.out (by omega)
    obtain ⟨x0,x1,x2,x3⟩:=hp4 p hp
    obtain ⟨P,hP⟩:=nmQ (G.prods.getD p default)
    have hPp:G.prods[p]?=some P:=by
     rw [<-hP,gdQ,geQ (by rw [HNP.out]; exact hp)]
     rfl
    have hri:=HRT.out p (by rw [HNP.out]; exact hp)
    rw [hP] at x0 x1 x3 hri
    obtain ⟨⟨ra,rac,hrv,_⟩,_⟩:=hri
    rw [hrv] at x2
    obtain ⟨RL,hRL⟩:=nmQ (P.rs.length)
    rw [hRL] at x2
    obtain ⟨k',τ',hkk',hrd,hrn'⟩:=HRN.out.at_red HTT.out.2.2.2 (by rw [HTT.out.2.2.1]; exact hact)
    obtain ⟨γ,hpa⟩:=HPA.out
    have hto:=HTO.out
    obtain ⟨τ1,ρ1,hσ,hne,htw,hρ⟩:=hto
    have htr:=htw.red HM.out (by rw [<-hσ]; exact hpa) hne (by rw [<-hσ]; exact hrd)
    obtain ⟨p',i',j',υ,q1,q2,q3,q4,q5,q6,q7,q8,q9,q10⟩:=LR.path_red HM.out hpa hrd
    obtain rfl:j=i':=Option.some.inj q1
    rw [HTT.out.2.2.1,hact] at q2
    obtain rfl:(p:Int)=p':=by injection q2
    have hrt:(mG G m D).rt (p:Int)=P.rs:=rt_at hPp
    have hsr:(mG G m D).srt (p:Int)=-1 - P.sort:=srt_at hPp
    rw [hrt,hRL] at q7
    have hwant:=HM.out.want j' p q8 q4
    have hrow:=row_of HH.out.1 hPp
    rw [hsr] at hwant q10
    obtain ⟨s,hs⟩:∃ s:Nat,P.sort=(s:Int):=⟨P.sort.toNat,by omega⟩
    rw [hs] at x1 hwant q10 hrow
    obtain ⟨S,hS⟩:=nmQ (G.sorts.length)
    rw [hS] at hrow
    have hgt:=go_to HH.out.2.1 (i:=j') (s:=-1 - (s:Int)) hwant
    obtain ⟨hj',qn,hq1,_,hq3,_⟩:=hgt
    have hto2:(mG G m D).to j' (-1 - (s:Int))=qn:=by show (goX G (iterB G m).nx (j':Int) (-1 - (s:Int))).toNat=qn; rw [hq1]; rfl
    rw [hto2] at q10
    subst q10
    obtain ⟨K1,hK1⟩:=nmQ (υ.length)
    have hlen:SN + 1=RL + (K1 + 1):=by
     have h1:=congrArg List.length q7
     have h2:=HSN.out
     rw [List.length_drop,h2,List.length_cons,hK1] at h1
     omega
    have HRD:=hid (show kk=k' + 1/\LR.RunsN (mG G m D) (fun t=>0<=t/\t < (T:Int)) k' (qn :: j' :: υ) (l.drop at_) b r/\(∃ τ ρ,qn :: j' :: υ=τ ++ ρ/\τ ≠ []/\LR.Tower (mG G m D) (LR.hd (l.drop at_)) τ/\ρ.length<=at_ * (m + 1))/\(∃ γ,LR.Path (mG G m D) (qn :: j' :: υ) γ) from
     ⟨hkk',hrn',by
      obtain ⟨a1,a2,a3,a4,a5,a6⟩:=htr
      exact ⟨a1,a2,a3,a4,a5,Nat.le_trans a6 hρ⟩,by
      have:=LR.Path.more (M:=mG G m D) j' υ _ (-1 - (s:Int)) q9 hwant
      rw [hto2] at this
      exact ⟨_,this⟩⟩)
    have HLN2:=hid hK1
    have HCT:=hid (show (stI (j :: τ0)).take (K1 + 1)=stI (j' :: υ) from by
     have h1:=stI_take q7
     rw [HSN.out,show SN + 1 - RL=K1 + 1 by omega] at h1
     exact h1)
    obtain ⟨nb,nf,un,rfl,v1,v2⟩:=HTB.out.2.at_ hj'
    obtain ⟨⟨xo,xc,rfl,_,hxo⟩,_⟩:=v2
    have hnl:(nextX G (iterB G m).nx j' G.sorts.length).length=S:=by unfold nextX; simp [hS]
    rw [hnl] at v1 hxo
    have hs2:s < S:=by omega
    obtain ⟨xb,xf,rfl,hxe⟩:=hxo (by omega)
    have hxs:w3.cell? ⟨xb,xf + s,none⟩=some (.int .i64 ((nextX G (iterB G m).nx j' G.sorts.length).getD s 0)):=hxe s hs2
    have hgv:(nextX G (iterB G m).nx j' G.sorts.length).getD s 0=(qn:Int):=by
     unfold nextX
     rw [gdQ,List.getElem?_map,List.getElem?_range (by rw [hS]; exact hs2)]
     exact hq1
    rw [hgv] at hxs
    have HV1:=hid (cell_below HW5.out v1)
    have HXS:=hid (cell_below HW5.out hxs)
    have HJ:=hid (show (j':Int) < (m:Int)/\s < S/\(s:Int) < (S:Int) from ⟨by omega,hs2,by omega⟩)
    replace x0:=cell_below hWY x0
    replace x1:=cell_below hWY x1
    replace x2:=cell_below hWY x2
    replace x3:=cell_below hWY x3
    have p0:(0:Int)<=(p:Int):=by omega
    have p1:(p:Int) < (NP:Int):=by omega
    clear hp4 hP hPp hrv hrd hrn' hpa htr q1 q2 q3 q4 q5 q6 q7 q8 q9 hrt hsr hwant hrow hs hj' hq1 hq3 hto2 hK1 hσ hne htw hρ hkk' v1 hxo hxe hxs hgv hnl hS hact hRL hWY
    obtain ⟨p4w,eya⟩:=nmQ (y2w.alloc (.cells #[.string P.lab,.int .i64 (s:Int),.slice ra RL rac,.int .i64 P.cls] 71))
    have pn4:p4w.heap[y2w.heap.size]?=some (.cells #[.string P.lab,.int .i64 (s:Int),.slice ra RL rac,.int .i64 P.cls] 71 (0,0)):=nbQ eya
    have HBP:=hid (show Below y2w.heap.size y2w p4w from by exact baQ eya)
    have HNP4:=hid pn4
    have f1p:p4w.cell? ⟨y2w.heap.size,1,none⟩=some (.int .i64 (s:Int)):=coQ pn4 1
    have f2p:p4w.cell? ⟨y2w.heap.size,2,none⟩=some (.slice ra RL rac):=coQ pn4 2
    have HFp:=hid ((HF.out.below HBY.out).below HBP.out)
    have hwr2:IntKind.i64.wrap ((SN:Int) + 1 - (RL:Int))=(K1:Int) + 1:=by
     have:=HM12.out
     rw [IntKind.wrap_i64]
     omega
    have k10:(0:Int)<=(K1:Int) + 1:=by omega
    have hcp:=HCAP.out
    have k11:(K1:Int) + 1<=(sc:Int):=by omega
    have k12:K1 + 1<=sc:=by omega
    have hFc:Foot w5.heap.size w5 p4w [queI w5.heap.size 1 (.slice (some ⟨sg,sf,none⟩) (K1 + 1) sc) (K1 + 1) (stI (j' :: υ))]:=by
     have h1:=(show ownsT p4w w5.heap.size 1 (.slice (some ⟨sg,sf,none⟩) (SN + 1) sc) (SN + 1) (stI (j :: τ0)) from HFp.out.ok 0 _ rfl)
     have h2:=own_take h1 (show K1 + 1<=SN + 1 by omega)
     rw [Nat.mul_one,HCT.out] at h2
     exact HFp.out.say 0 rfl (queI w5.heap.size 1 (.slice (some ⟨sg,sf,none⟩) (K1 + 1) sc) (K1 + 1) (stI (j' :: υ))) h2 (fun b hb=>hb)
    have HFc:=hid hFc
    have HSJ:=hid (show p4w.cell? ⟨sg,sf + K1,none⟩=some (.int .i64 (j':Int)) from by
     obtain ⟨g,off,e,hc⟩:=ownsT_cell (show ownsT p4w w5.heap.size 1 (.slice (some ⟨sg,sf,none⟩) (K1 + 1) sc) (K1 + 1) _ from hFc.ok 0 _ rfl) (by omega)
     cases e
     exact hc K1 _ (stI_top HLN2.out))
    have HK12:=hid (show K1 + 1<=1000000000000 from by have:=HM12.out; omega)
    clear pn4 hFc hlen hcp
    obtain ⟨e8,e8b,_⟩:=HD5.out p4w ((HF.out.bel.trans (HBY.out.mono HF.out.bel.size)).trans (HBP.out.mono (HF.out.bel.trans (HBY.out.mono HF.out.bel.size)).size))
    obtain ⟨wf,ewf⟩:=nmQ (p4w.drew)
    have hbf:Below p4w.heap.size p4w wf:=bdQ ewf
    obtain ⟨wq,eq⟩:=nmQ (wf.alloc (.cells #[.int .i64 (qn:Int)] 3))
    have nq:wq.heap[wf.heap.size]?=some (.cells #[.int .i64 (qn:Int)] 3 (0,0)):=nbQ eq
    have hbq:Below p4w.heap.size p4w wq:=hbf.trans ((by exact baQ eq:Below wf.heap.size wf wq).mono hbf.size)
    have HFq:=hid (HFc.out.below hbq)
    have hv1:=cell_below HBP.out (cell_below HBY.out HV1.out)
    have hxs:=cell_below HBP.out (cell_below HBY.out HXS.out)
    have HI0:wf.cell? ⟨b8,1,none⟩=some (.slice (some ⟨nb,nf,none⟩) m nvc)/\wf.cell? ⟨sg,sf + K1,none⟩=some (.int .i64 (j':Int))/\wf.cell? ⟨nb,nf + j',none⟩=some (.slice (some ⟨xb,xf,none⟩) S xc)/\wf.cell? ⟨y2w.heap.size,1,none⟩=some (.int .i64 (s:Int))/\wf.cell? ⟨xb,xf + s,none⟩=some (.int .i64 (qn:Int)):=⟨cell_below hbf e8b,cell_below hbf HSJ.out,cell_below hbf hv1,cell_below hbf f1p,cell_below hbf hxs⟩
    have HI1:wq.cell? ⟨b8,1,none⟩=some (.slice (some ⟨nb,nf,none⟩) m nvc)/\wq.cell? ⟨sg,sf + K1,none⟩=some (.int .i64 (j':Int))/\wq.cell? ⟨nb,nf + j',none⟩=some (.slice (some ⟨xb,xf,none⟩) S xc)/\wq.cell? ⟨y2w.heap.size,1,none⟩=some (.int .i64 (s:Int))/\wq.cell? ⟨xb,xf + s,none⟩=some (.int .i64 (qn:Int)):=⟨cell_below hbq e8b,cell_below hbq HSJ.out,cell_below hbq hv1,cell_below hbq f1p,cell_below hbq hxs⟩
    have HCQ:=hid (show ∀ j u,([.int .i64 (qn:Int)]:List Value)[j]?=some u->wq.cell? ⟨wf.heap.size,j,none⟩=some u from fun j u hi=>by
     rw [coQ nq,<-hi,<-List.getElem?_toArray])
    have HOQ:=hid (show ∀ x ∈ ([.int .i64 (qn:Int)]:List Value),x.oneCell'=true from fun q hq=>by rw [List.mem_singleton.1 hq]; rfl)
    have HBq:=hid (show w5.heap.size<=wq.heap.size from Nat.le_trans HFq.out.le HFq.out.bel.size)
    have HOW:=hid (show ownsT wq w5.heap.size 1 (.slice (some ⟨sg,sf,none⟩) (K1 + 1) sc) (K1 + 1) (stI (j' :: υ)) from HFq.out.ok 0 _ rfl)
    have hwr3:IntKind.i64.wrap (K1:Int)=(K1:Int):=by
     have:=HK12.out
     rw [IntKind.wrap_i64]
     omega
    have k20:(0:Int)<=(K1:Int):=by omega
    have k21:(K1:Int) < (K1:Int) + 1:=by omega
    have j20:(0:Int)<=(j':Int):=by omega
    have j21:=HJ.out.1
    have s20:(0:Int)<=(s:Int):=by omega
    have s21:=HJ.out.2.2
    clear nq hbq hbf hv1 hxs
    go_wp2_with fail
    clear c0 c1 c2 c3 c4 e8 e8b
    refine region_T 16 (fun w'=>w'.cell? ⟨b8,1,none⟩=some (.slice (some ⟨nb,nf,none⟩) m nvc)/\w'.cell? ⟨sg,sf + K1,none⟩=some (.int .i64 (j':Int))/\w'.cell? ⟨nb,nf + j',none⟩=some (.slice (some ⟨xb,xf,none⟩) S xc)/\w'.cell? ⟨y2w.heap.size,1,none⟩=some (.int .i64 (s:Int))/\w'.cell? ⟨xb,xf + s,none⟩=some (.int .i64 (qn:Int))) (by kernel_rfl) (by rw [ewf]; exact HI0) (fun inv hHeld=>?_)
    rw [ewf]
    clear hHeld ewf
    iterate 15
     refine anyT_auto (v:=?_) rfl (by kernel_rfl) (fun _ _ _ h=>h) (Or.inl ⟨by rfl,?_⟩) HI0 inv (fun inv=>?_)
     rotate_left
     ·intro w hSw
      try dsimp only at hSw
      go_simp
      try with_reducible rfl
     simp only [Act.put,sjA,sj0,sjS]
    refine anyT_next (i:=15) (o:={dst:=some 106,op:=.buildSlice 43 1 #[(0,.tmp 105)],type:=43,pos := "table.go:174",after:=#[{on:=14,ground:=.data}],guard:=none}) (by kernel_rfl) rfl (by decide) inv (fun inv K' hK=>?_)
    go_simp
    refine hK.out _ _ HI1 ?_
    clear hK K' HI0
    try simp only [Act.put,sjA,sj0,sjS]
    refine anyT_one (i:=16) (o:={dst:=some 107,op:=.call {callee:=.builtin .append,args:=#[.tmp 91,.tmp 106],argTypes:=#[43,43]},type:=43,pos := "table.go:174",after:=#[{on:=0,ground:=.data},{on:=15,ground:=.data}],guard:=none}) (by kernel_rfl) rfl (fun K' hK=>?_)
    simp only [Region.wanted]
    rw [if_pos trivial]
    refine wp_push_T (.tmp 91) (.tmp 106) 43 3 rfl (.int .i64 0) 1 8 Tryz.underlying43 info3 rfl (by decide) (.slice (some ⟨sg,sf,none⟩) (K1 + 1) sc) (K1 + 1) (stI (j' :: υ)) rfl HOW.out wf.heap.size rfl [.int .i64 (qn:Int)] rfl HCQ.out HOQ.out HK12.out HBq.out ?_
    intro ao2 c8 w8 hown hg8 hat2
    have h8:=HFq.out.push_que 0 rfl hown hg8 hat2
    refine hK.out _ _ (fun h=>absurd h (by decide)) ?_
    clear hK K' HI1 hown hg8 hat2
    try simp only [Act.put,sjA,sj0,sjS]
    refine anyT_one (i:=17) (o:={dst:=some 10,op:=.assign (.tmp 107),type:=43,pos := "table.go:174",after:=#[{on:=16,ground:=.data},{on:=16,ground:=.chain},{on:=0,ground:=.phase},{on:=1,ground:=.phase},{on:=2,ground:=.phase},{on:=3,ground:=.phase},{on:=4,ground:=.phase},{on:=5,ground:=.phase},{on:=6,ground:=.phase},{on:=7,ground:=.phase},{on:=8,ground:=.phase},{on:=9,ground:=.phase},{on:=10,ground:=.phase},{on:=11,ground:=.phase},{on:=12,ground:=.phase},{on:=13,ground:=.phase},{on:=14,ground:=.phase},{on:=15,ground:=.phase},{on:=16,ground:=.phase}],guard:=none}) (by kernel_rfl) rfl (fun K' hK=>?_)
    go_simp
    refine hK.out _ _ (fun h=>absurd h (by decide)) ?_
    clear hK K'
    try simp only [Act.put,sjA,sj0,sjS]
    refine anyT_done (by kernel_rfl) ?_ _
    have HF8:=hid h8
    clear h8 eq
    go_wp2_with fail
    refine ⟨⟨k',qn :: j' :: υ,at_,K1 + 1,hat,rfl,hid HRD.out.2.1,hid HRD.out.2.2.2,hid (by rw [List.length_cons,List.length_cons,HLN2.out]),hid HRD.out.2.2.1,hid (by rw [stI_cons]; exact HF8.out)⟩,?_⟩
    show (minOf fun k=>_) < (minOf fun k=>_)
    rw [HKK.out]
    exact Nat.lt_of_le_of_lt (minOf_le ⟨qn :: j' :: υ,at_,K1 + 1,hat,rfl,hid HRD.out.2.1,hid HRD.out.2.2.2,hid (by rw [List.length_cons,List.length_cons,HLN2.out]),hid HRD.out.2.2.1,hid (by rw [stI_cons]; exact HF8.out)⟩) (by have:=HRD.out.1; omega)
   ·dsimp only at y0 y1
    have vn0:wa.heap[we.heap.size]?=some (.cells #[.int .i64 0,.int .i64 0] 91 (0,0)):=na
    have vc0:wa.cell? ⟨we.heap.size,0,none⟩=some (.int .i64 0):=coQ vn0 0
    have vf0:=foQ vn0 0
    obtain ⟨y1w,ve0⟩:=nmQ (wa.setCell ⟨we.heap.size,0,none⟩ (.int .i64 3))
    have vn1:y1w.heap[we.heap.size]?=some (.cells #[.int .i64 3,.int .i64 0] 91 (0,0)):=hsQ ve0 vn0
    have vc1:y1w.cell? ⟨we.heap.size,1,none⟩=some (.int .i64 0):=coQ vn1 1
    have vf1:=foQ vn1 1
    obtain ⟨y2w,ve1⟩:=nmQ (y1w.setCell ⟨we.heap.size,1,none⟩ (.int .i64 0))
    have vn2:y2w.heap[we.heap.size]?=some (.cells #[.int .i64 3,.int .i64 0] 91 (0,0)):=hsQ ve1 vn1
    have HBY:=hid (show Below wr.heap.size wr y2w from by
     rw [<-ve1,<-ve0]
     exact (hba.setCell HES.out _).setCell HES.out _)
    have HNY:=hid vn2
    have HH0:we.cell? ⟨b8,0,none⟩=some (.slice (some ⟨db,df,none⟩) m dvc)/\we.cell? ⟨sg,sf + SN,none⟩=some (.int .i64 (j:Int))/\we.cell? ⟨db,df + j,none⟩=some (.slice (some ⟨rb,rf,none⟩) (T + 1) rc)/\we.cell? ⟨rb,rf + T * 2,none⟩=some (.int .i64 3)/\we.cell? ⟨rb,rf + T * 2 + 1,none⟩=some (.int .i64 0):=⟨cell_below hbe e8,cell_below hbe z0,cell_below hbe z1,cell_below hbe y0,cell_below hbe y1⟩
    have HH1:wa.cell? ⟨b8,0,none⟩=some (.slice (some ⟨db,df,none⟩) m dvc)/\wa.cell? ⟨sg,sf + SN,none⟩=some (.int .i64 (j:Int))/\wa.cell? ⟨db,df + j,none⟩=some (.slice (some ⟨rb,rf,none⟩) (T + 1) rc)/\wa.cell? ⟨rb,rf + T * 2,none⟩=some (.int .i64 3)/\wa.cell? ⟨rb,rf + T * 2 + 1,none⟩=some (.int .i64 0):=⟨cell_below hba e8,cell_below hba z0,cell_below hba z1,cell_below hba y0,cell_below hba y1⟩
    have g0:y2w.cell? ⟨we.heap.size,0,none⟩=some (.int .i64 3):=coQ vn2 0
    have g1:y2w.cell? ⟨we.heap.size,1,none⟩=some (.int .i64 0):=coQ vn2 1
    have HZ:=hid (And.intro z0 z1)
    clear vn0 vn1 vn2 na hbe hba z0 z1 y0 y1 e8
    go_wp2_with fail
    clear c0 c1 c2 c3 c4
    refine region_T 14 (fun w'=>w'.cell? ⟨b8,0,none⟩=some (.slice (some ⟨db,df,none⟩) m dvc)/\w'.cell? ⟨sg,sf + SN,none⟩=some (.int .i64 (j:Int))/\w'.cell? ⟨db,df + j,none⟩=some (.slice (some ⟨rb,rf,none⟩) (T + 1) rc)/\w'.cell? ⟨rb,rf + T * 2,none⟩=some (.int .i64 3)/\w'.cell? ⟨rb,rf + T * 2 + 1,none⟩=some (.int .i64 0)) (by kernel_rfl) (by rw [ewe]; exact HH0) (fun inv hHeld=>?_)
    rw [ewe]
    clear hHeld ewe
    iterate 13
     refine anyT_auto (v:=?_) rfl (by kernel_rfl) (fun _ _ _ h=>h) (Or.inl ⟨by rfl,?_⟩) HH0 inv (fun inv=>?_)
     rotate_left
     ·intro w hSw
      try dsimp only at hSw
      go_simp
      try with_reducible rfl
     simp only [Act.put,sjA,sj0,sjS]
    refine anyT_next (i:=13) (o:={dst:=some 13,op:=.alloc 91,type:=0,pos := "table.go:167",after:=#[],guard:=none}) (by kernel_rfl) rfl (by decide) inv (fun inv K' hK=>?_)
    go_simp
    refine hK.out _ _ HH1 ?_
    clear hK K' HH0
    try simp only [Act.put,sjA,sj0,sjS]
    refine anyT_one (i:=14) (o:={dst:=none,op:=.store 91 (.tmp 13) (.tmp 62),type:=0,pos := "table.go:167",after:=#[{on:=13,ground:=.data},{on:=12,ground:=.data},{on:=0,ground:=.phase},{on:=1,ground:=.phase},{on:=2,ground:=.phase},{on:=3,ground:=.phase},{on:=4,ground:=.phase},{on:=5,ground:=.phase},{on:=6,ground:=.phase},{on:=7,ground:=.phase},{on:=8,ground:=.phase},{on:=9,ground:=.phase},{on:=10,ground:=.phase},{on:=11,ground:=.phase},{on:=12,ground:=.phase},{on:=13,ground:=.phase}],guard:=none}) (by kernel_rfl) rfl (fun K' hK=>?_)
    go_simp
    refine hK.out _ _ (fun h=>absurd h (by decide)) ?_
    clear hK K'
    try simp only [Act.put,sjA,sj0,sjS]
    refine anyT_done (by kernel_rfl) ?_ _
    clear HH1
    clear vc0 vf0 vc1 vf1 ve0 ve1 ea
    have HRES:=hid (show b=true/\r=l.drop at_ from HRN.out.at_acc HTT.out.2.2.2 (by rw [HTT.out.2.2.1]; exact hact))
    have HNN:=hid (show ((at_ - r.length:Nat):Int)=(at_:Int) from by rw [HRES.out.2,List.length_drop,HLN.out]; omega)
    go_wp2_with fail
    refine bodyPost_ret (results_tmp2 rfl _ _ _) rfl ?_
    refine ⟨?_,HWW.out.trans (HBY.out.mono HWW.out.size)⟩
    rw [HNN.out,HRES.out.1]
    rfl
end Go.Proofs.YticmnfmijdgmbaaGreatDoor
