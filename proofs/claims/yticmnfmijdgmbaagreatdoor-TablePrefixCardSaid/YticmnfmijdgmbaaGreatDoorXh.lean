/- spread: what an item's set asks of others. -/
import Derived.Test.YticmnfmijdgmbaaGreatDoorGa
import Derived.Test.YticmnfmijdgmbaaGreatDoorXg
set_option linter.unusedVariables false
set_option linter.unusedSimpArgs false
namespace Go.Proofs.YticmnfmijdgmbaaGreatDoor
open Go Go.RowKit Go.Lib
open X14 (It iterB BuiltOk)
open S13 (u64 comX Com bitN top E0 F0 Sub)
open S13.X15 (Pl WQ WS askX places cxB updA miss CxOk needX)
def SpreadP (W:World) (bS bA bC:Nat) (G:GD) (gc:List Value) (rest:List Item) (n:Nat) (b0:Pl) (v0:Nat) (l0 m0:Nat) (A0:Pl->Nat) (e:Ending) (w':World):Prop:=
 e=.returned (.tuple #[])/\∃ LA' LC' qv' Q',Foot W.heap.size W w' (spItems W.heap.size bS bA bC G gc LA' LC' qv' Q' rest)/\WQ (askX (cxB G n (E0 G) (F0 G))) (places (cxB G n (E0 G) (F0 G)) n) b0 v0 (getA LA') Q' /\
  Q'.length + miss (places (cxB G n (E0 G) (F0 G)) n) (getA LA')<=l0 + m0/\Q'.length + 2 * miss (places (cxB G n (E0 G) (F0 G)) n) (getA LA')<=l0 + 2 * m0/\∀ q,Sub (A0 q) (getA LA' q)
set_option maxRecDepth 100000 in
set_option maxHeartbeats 16000000 in
theorem spread_any {bS bA bC:Nat} {W w:World} {G:GD} {tv ov sv pv kv nv:Value} {LA:List (Pl × Nat)} {LC:List It} {qv:Value} {Q:List Pl} {rest:List Item} {n:Nat} {b0:Pl} {v0:Nat} {i:Nat} {x:It}
  (h:Foot W.heap.size W w (spItems W.heap.size bS bA bC G [tv,ov,sv,pv,.int .i64 G.start,kv,nv] LA LC qv Q rest)) (hG:Gram W (.agg #[tv,ov,sv,pv,.int .i64 G.start]) G) (hA:AutAt W (.agg #[kv,nv]) (iterB G n).ker (iterB G n).nx) (hb:BuiltOk G n) (hV:validB G=true)
  (hw:WS (askX (cxB G n (E0 G) (F0 G))) (places (cxB G n (E0 G) (F0 G)) n) b0 v0 (getA LA) Q (i,x) (getA LA (i,x)) 0) (hQ:Q.length + miss (places (cxB G n (E0 G) (F0 G)) n) (getA LA)<=1000000000) :
  Calls Tryz.prog 88 #[.pointer (some ⟨bS,0,none⟩),plV (i,x)] w (SpreadP W bS bA bC G [tv,ov,sv,pv,.int .i64 G.start,kv,nv] rest n b0 v0 Q.length (miss (places (cxB G n (E0 G) (F0 G)) n) (getA LA)) (getA LA)):=by
 obtain ⟨pa,np,pc,hnp,rfl⟩:∃ pa np pc,np=G.prods.length/\pv=.slice pa np pc:=by
  obtain ⟨_,_,_,_,_,_,hg⟩:=hG
  have hge:=hg.eq
  cases hge
  obtain ⟨pa,pc,rfl,_⟩:=hg.prods
  exact ⟨_,_,_,rfl,rfl⟩
 have hnp120:np<=120:=by rw [hnp]; exact (valid_parts hV).2.2.1
 have HNPL:=hid hnp
 clear hnp
 have HG:=hid hG
 have HA:=hid hA
 have HB:=hid hb
 have HV:=hid hV
 have hn2:n<=2000:=by have:=hb.1.le; have:=hb.inv.2.2; omega
 have hin:=hw.inx
 obtain ⟨hi,hth⟩:=place_there hin
 obtain ⟨hxo,hx1,hx2,hx3,hx4⟩:=there_ok hV hth
 have HXO:=hid hxo
 have HIN:=hid hin
 have HPO:=hid (place_ok hV hn2 hin)
 have HCK:=hid (S13.X15.cx_ok (E:=E0 G) hb (symOk hV) (S13.f0_least hV).2.2)
 have HMO:=hid (S13.X15.askX_mono (cxB G n (E0 G) (F0 G)))
 have HGO:=hid (show ∀ s,X14.behX G x=some s->∃ q:Nat,goX G (iterB G n).nx i s=(q:Int)/\(cxB G n (E0 G) (F0 G)).to i s=q from fun s hs=>by
  obtain ⟨q,h1,h2,_⟩:=S13.X15.go_built (E:=E0 G) (F:=F0 G) hb (symOk hV) hi (S13.X15.mem_places.1 hin).2 hs
  exact ⟨q,h1,h2⟩)
 have HNX:=hid (NxOk.built hb)
 have HPLK:=hid (show ∀ p ∈ places (cxB G n (E0 G) (F0 G)) n,PlOk p from fun p hp=>place_ok hV hn2 hp)
 have HCO:Hid (∀ s,X14.behX G x=some s->s < 0->(comX G x).fst=S13.X15.fstX (cxB G n (E0 G) (F0 G)) x/\(comX G x).emp=S13.X15.nulX (cxB G n (E0 G) (F0 G)) x):=hid fun s hs h0=>by
  rw [S13.comX_sort hs h0]
  exact ⟨rfl,rfl⟩
 have HCXG:Hid ((cxB G n (E0 G) (F0 G)).G=G):=rfl
 generalize hcx:cxB G n (E0 G) (F0 G)=cx at *
 have HCX:=hid hcx
 obtain ⟨PS,hPS⟩:=nmQ (places cx n)
 have HPS:=hid hPS
 rw [hPS] at hw hQ HIN HPLK
 have HAIN:=hid (show ∀ S,S < top->∀ e ∈ askX cx (i,x) S,e.1 ∈ PS/\e.2 < top from fun S hS e he=>by rw [<-hPS]; exact HCK.out.ask_in (by rw [hPS]; exact HIN.out) hS e he)
 obtain ⟨l0,hl0⟩:=nmQ (Q.length)
 obtain ⟨m0,hm0⟩:=nmQ (miss PS (getA LA))
 have HQ:=hid (And.intro hl0 hm0)
 obtain ⟨S,hS⟩:=nmQ (getA LA (i,x))
 rw [hS] at hw
 have HS:=hid hS
 have HW:=hid hw
 have HQB:=hid hQ
 have hSlow:S < top:=by rw [<-hS]; exact hw.base.low _
 have HSL:=hid hSlow
 have hgl:[tv,ov,sv,Value.slice pa np pc,Value.int .i64 G.start,kv,nv].length=7:=rfl
 obtain ⟨gc,hgc⟩:=nmQ ([tv,ov,sv,Value.slice pa np pc,Value.int .i64 G.start,kv,nv])
 have HGC:=hid hgc
 have HPOST:=hid (show ∀ e w',(e=.returned (.tuple #[])/\∃ LA' LC' qv' Q',Foot W.heap.size W w' (spItems W.heap.size bS bA bC G gc LA' LC' qv' Q' rest)/\WQ (askX cx) PS b0 v0 (getA LA') Q'/\Q'.length + miss PS (getA LA')<=l0 + m0/\Q'.length + 2 * miss PS (getA LA')<=l0 + 2 * m0/\∀ q,Sub (getA LA q) (getA LA' q))->SpreadP W bS bA bC G gc rest n b0 v0 Q.length (miss (places cx n) (getA LA)) (getA LA) e w' from fun e w' hh=>by
  unfold SpreadP
  rw [hcx,hPS,hl0,hm0]
  exact hh)
 rw [hgc] at h hgl ⊢
 obtain ⟨mi,hmi⟩:=nmQ ((comX G x).is)
 obtain ⟨ms,hms⟩:=nmQ ((comX G x).sym)
 obtain ⟨mf,hmf⟩:=nmQ ((comX G x).fst)
 obtain ⟨me,hme⟩:=nmQ ((comX G x).emp)
 have hmlow:mf < top:=by rw [<-hmf]; exact S13.comX_low hV x
 have hcv:comV (comX G x)=.agg #[.bool mi,.int .i64 ms,u64 mf,.bool me]:=by unfold comV; rw [hmi,hms,hmf,hme]
 have HM:=hid (And.intro hmi (And.intro hms (And.intro hmf hme)))
 have HMC:=hid hcv
 have HML:=hid hmlow
 clear hgc hG hA hb hV hw hin hth hxo hcx hPS hl0 hm0 hS hQ hSlow hmi hms hmf hme hcv hmlow hi
 obtain ⟨W1,e1⟩:=nmQ (w.alloc (.cells #[.int .i64 (i:Int),.int .i64 x.1,.int .i64 x.2] 158))
 have n1:W1.heap[w.heap.size]?=some (.cells #[.int .i64 (i:Int),.int .i64 x.1,.int .i64 x.2] 158 (0,0)):=nbQ e1
 have HF1:=hid (show Foot W.heap.size W W1 (spItems W.heap.size bS bA bC G gc LA LC qv Q rest ++ [blkI w.heap.size (.cells #[.int .i64 (i:Int),.int .i64 x.1,.int .i64 x.2] 158 (0,0))]) from foot_add1 h e1 n1)
 have d1:W1.cell? ⟨w.heap.size,1,none⟩=some (.int .i64 x.1):=coQ n1 1
 have d2:W1.cell? ⟨w.heap.size,2,none⟩=some (.int .i64 x.2):=coQ n1 2
 have KC:=hid (show Calls Tryz.prog 120 #[.pointer (some ⟨bS,0,none⟩),.agg #[.int .i64 x.1,.int .i64 x.2]] W1 (ComesP W.heap.size bS bA bC W G gc LA qv Q (rest ++ [blkI w.heap.size (.cells #[.int .i64 (i:Int),.int .i64 x.1,.int .i64 x.2] 158 (0,0))]) x) from by
  have hf:=HF1.out
  rw [<-HGC.out] at hf ⊢
  exact comes_any (gv:=.int .i64 0) (rest:=rest ++ [blkI w.heap.size (.cells #[.int .i64 (i:Int),.int .i64 x.1,.int .i64 x.2] 158 (0,0))]) hf HG.out rfl HV.out x HXO.out)
 clear h n1
 unfold plV
 go_enter Tryz.func88,Tryz.ntmps88
 go_wp2_with fail
 refine KC.out.mono ?_
 rintro e w5 ⟨rfl,LC',hf5⟩
 rw [HMC.out]
 obtain ⟨W6,e6⟩:=nmQ (w5.alloc (.cells #[.bool false,.int .i64 0,.int .u64 0,.bool false] 193))
 have n6:W6.heap[w5.heap.size]?=some (.cells #[.bool false,.int .i64 0,.int .u64 0,.bool false] 193 (0,0)):=nbQ e6
 have HF6:=hid (show Foot W.heap.size W W6 (spItems W.heap.size bS bA bC G gc LA LC' qv Q rest ++ [blkI w.heap.size (.cells #[.int .i64 (i:Int),.int .i64 x.1,.int .i64 x.2] 158 (0,0)),blkI w5.heap.size (.cells #[.bool false,.int .i64 0,.int .u64 0,.bool false] 193 (0,0))]) from by
  have:=foot_add1 hf5 e6 n6
  rw [sp_rest,List.append_assoc] at this
  exact this)
 have yn0:W6.heap[w5.heap.size]?=some (.cells #[.bool false,.int .i64 0,.int .u64 0,.bool false] 193 (0,0)):=n6
 have yc0:W6.cell? ⟨w5.heap.size,0,none⟩=some (.bool false):=coQ yn0 0
 have yf0:=foQ yn0 0
 obtain ⟨y1,ye0⟩:=nmQ (W6.setCell ⟨w5.heap.size,0,none⟩ (.bool mi))
 have yn1:y1.heap[w5.heap.size]?=some (.cells #[.bool mi,.int .i64 0,.int .u64 0,.bool false] 193 (0,0)):=hsQ ye0 yn0
 have yc1:y1.cell? ⟨w5.heap.size,1,none⟩=some (.int .i64 0):=coQ yn1 1
 have yf1:=foQ yn1 1
 obtain ⟨y2,ye1⟩:=nmQ (y1.setCell ⟨w5.heap.size,1,none⟩ (.int .i64 ms))
 have yn2:y2.heap[w5.heap.size]?=some (.cells #[.bool mi,.int .i64 ms,.int .u64 0,.bool false] 193 (0,0)):=hsQ ye1 yn1
 have yc2:y2.cell? ⟨w5.heap.size,2,none⟩=some (.int .u64 0):=coQ yn2 2
 have yf2:=foQ yn2 2
 obtain ⟨y3,ye2⟩:=nmQ (y2.setCell ⟨w5.heap.size,2,none⟩ (u64 mf))
 have yn3:y3.heap[w5.heap.size]?=some (.cells #[.bool mi,.int .i64 ms,u64 mf,.bool false] 193 (0,0)):=hsQ ye2 yn2
 have yc3:y3.cell? ⟨w5.heap.size,3,none⟩=some (.bool false):=coQ yn3 3
 have yf3:=foQ yn3 3
 obtain ⟨y4,ye3⟩:=nmQ (y3.setCell ⟨w5.heap.size,3,none⟩ (.bool me))
 have yn4:y4.heap[w5.heap.size]?=some (.cells #[.bool mi,.int .i64 ms,u64 mf,.bool me] 193 (0,0)):=hsQ ye3 yn3
 have HF7:=hid (show Foot W.heap.size W y4 (spItems W.heap.size bS bA bC G gc LA LC' qv Q rest ++ [blkI w.heap.size (.cells #[.int .i64 (i:Int),.int .i64 x.1,.int .i64 x.2] 158 (0,0)),blkI w5.heap.size (.cells #[.bool mi,.int .i64 ms,u64 mf,.bool me] 193 (0,0))]) from by
  have:=foot_four HF6.out (k:=1) rfl (.bool mi) (.int .i64 ms) (u64 mf) (.bool me)
  rw [ye0,ye1,ye2,ye3] at this
  exact this)
 have g0:y4.cell? ⟨w5.heap.size,0,none⟩=some (.bool mi):=coQ yn4 0
 clear KC hf5 n6 d1 d2 yn0 yn1 yn2 yn3 yn4
 cases hbx:X14.behX G x with
 | none =>
  obtain rfl:false=mi:=by rw [<-HM.out.1,S13.comX_none hbx]
  have HASK:=hid (S13.X15.askX_none (c:=cx) (p:=(i,x)) (S:=S) (by rw [HCXG.out]; exact hbx))
  clear hbx
  go_wp2_with fail
  refine bodyPost_ret (results_none rfl _ _ _) rfl ?_
  refine HPOST.out _ _ ⟨rfl,LA,LC',qv,Q,foot_drops HF7.out,HW.out.end_ (by rw [HASK.out]; exact Nat.le_refl _),?_,?_,fun q=>S13.sub_refl _⟩
  ·rw [HQ.out.1,HQ.out.2]; exact Nat.le_refl _
  ·rw [HQ.out.1,HQ.out.2]; exact Nat.le_refl _
 | some s =>
  obtain rfl:true=mi:=by
   rw [<-HM.out.1]
   by_cases hs:s < 0
   ·rw [S13.comX_sort hbx hs]
   ·rw [S13.comX_term hbx hs]
  obtain rfl:s=ms:=by
   rw [<-HM.out.2.1]
   by_cases hs:s < 0
   ·rw [S13.comX_sort hbx hs]
   ·rw [S13.comX_term hbx hs]
  have HBX:=hid hbx
  clear hbx
  go_wp2_with fail
  clear yc0 yf0 yc1 yf1 yc2 yf2 yc3 yf3 ye0 ye1 ye2 ye3 e1 e6 HF6 HF1
  generalize w5.heap.size=bc at *
  obtain ⟨wz,ewz⟩:=nmQ (y4.drew)
  have HFz:=hid (HF7.out.below (show Below y4.heap.size y4 wz by exact bdQ ewz))
  have hlk:=amap_look (sp_mapA (rest:=rest ++ _) HFz.out) HPO.out
  rw [HS.out] at hlk
  unfold plV at hlk
  have d1:wz.cell? ⟨w.heap.size,1,none⟩=some (.int .i64 x.1):=coQ (foot_at HFz.out (k:=0) rfl) 1
  have d2:wz.cell? ⟨w.heap.size,2,none⟩=some (.int .i64 x.2):=coQ (foot_at HFz.out (k:=0) rfl) 2
  have HH0:wz.cell? ⟨bS,7,none⟩=some (.map (some bA))/\wz.cell? ⟨w.heap.size,0,none⟩=some (.int .i64 (i:Int))/\wz.cell? ⟨w.heap.size,1,none⟩=some (.int .i64 x.1)/\wz.cell? ⟨w.heap.size,2,none⟩=some (.int .i64 x.2)/\(Instr.lookup 152 (.map (some bA)) (.agg #[.int .i64 (i:Int),.int .i64 x.1,.int .i64 x.2]) false).run Tryz.prog wz=.ok (u64 S) wz:=⟨sp_c7 (rest:=rest ++ _) HFz.out hgl,coQ (foot_at HFz.out (k:=0) rfl) 0,d1,d2,hlk⟩
  have hwx:IntKind.i64.wrap (x.2 + 1)=x.2 + 1:=wrap_small (by omega) (by omega)
  obtain ⟨wn,en⟩:=nmQ (wz.alloc (.cells #[.int .i64 0,.int .i64 0] 60))
  have nn:wn.heap[wz.heap.size]?=some (.cells #[.int .i64 0,.int .i64 0] 60 (0,0)):=nbQ en
  have hfn:=foot_add1 HFz.out en nn
  rw [List.append_assoc] at hfn
  have hfn2:Foot W.heap.size W wn (spItems W.heap.size bS bA bC G gc LA LC' qv Q rest ++ [blkI w.heap.size (.cells #[.int .i64 (i:Int),.int .i64 x.1,.int .i64 x.2] 158 (0,0)),blkI bc (.cells #[.bool true,.int .i64 s,u64 mf,.bool me] 193 (0,0)),blkI wz.heap.size (.cells #[.int .i64 0,.int .i64 0] 60 (0,0))]):=hfn
  have vn0:wn.heap[wz.heap.size]?=some (.cells #[.int .i64 0,.int .i64 0] 60 (0,0)):=nn
  have vc0:wn.cell? ⟨wz.heap.size,0,none⟩=some (.int .i64 0):=coQ vn0 0
  have vf0:=foQ vn0 0
  obtain ⟨u1,ve0⟩:=nmQ (wn.setCell ⟨wz.heap.size,0,none⟩ (.int .i64 x.1))
  have vn1:u1.heap[wz.heap.size]?=some (.cells #[.int .i64 x.1,.int .i64 0] 60 (0,0)):=hsQ ve0 vn0
  have vc1:u1.cell? ⟨wz.heap.size,1,none⟩=some (.int .i64 0):=coQ vn1 1
  have vf1:=foQ vn1 1
  obtain ⟨u2,ve1⟩:=nmQ (u1.setCell ⟨wz.heap.size,1,none⟩ (.int .i64 (x.2 + 1)))
  have vn2:u2.heap[wz.heap.size]?=some (.cells #[.int .i64 x.1,.int .i64 (x.2 + 1)] 60 (0,0)):=hsQ ve1 vn1
  have HFu:=hid (show Foot W.heap.size W u2 (spItems W.heap.size bS bA bC G gc LA LC' qv Q rest ++ [blkI w.heap.size (.cells #[.int .i64 (i:Int),.int .i64 x.1,.int .i64 x.2] 158 (0,0)),blkI bc (.cells #[.bool true,.int .i64 s,u64 mf,.bool me] 193 (0,0)),blkI wz.heap.size (.cells #[.int .i64 x.1,.int .i64 (x.2 + 1)] 60 (0,0))]) from by
   have h1:=foot_set (k:=2) (i:=0) (v:=.int .i64 x.1) hfn2 rfl
   rw [ve0] at h1
   have h2:=foot_set (m:=[blkI w.heap.size (.cells #[.int .i64 (i:Int),.int .i64 x.1,.int .i64 x.2] 158 (0,0)),blkI bc (.cells #[.bool true,.int .i64 s,u64 mf,.bool me] 193 (0,0)),blkI wz.heap.size (.cells #[.int .i64 x.1,.int .i64 0] 60 (0,0))]) (k:=2) (i:=1) (v:=.int .i64 (x.2 + 1)) h1 rfl
   rw [ve1] at h2
   exact h2)
  obtain ⟨wf,ewf⟩:=nmQ (u2.drew)
  have HFf:=hid (HFu.out.below (show Below u2.heap.size u2 wf by exact bdQ ewf))
  have HH1:wf.cell? ⟨bS,0,none⟩=some (tv)/\wf.cell? ⟨bS,1,none⟩=some (ov)/\wf.cell? ⟨bS,2,none⟩=some (sv)/\wf.cell? ⟨bS,3,none⟩=some (.slice pa np pc)/\wf.cell? ⟨bS,4,none⟩=some (.int .i64 G.start)/\wf.cell? ⟨bS,5,none⟩=some (kv)/\wf.cell? ⟨bS,6,none⟩=some (nv)/\wf.cell? ⟨w.heap.size,0,none⟩=some (.int .i64 (i:Int))/\wf.cell? ⟨bc,1,none⟩=some (.int .i64 s)/\wf.cell? ⟨wz.heap.size,0,none⟩=some (.int .i64 x.1)/\wf.cell? ⟨wz.heap.size,1,none⟩=some (.int .i64 (x.2 + 1)):=⟨sp_cg (rest:=rest ++ _) HFf.out (k:=0) (by rw [<-HGC.out]; rfl),sp_cg (rest:=rest ++ _) HFf.out (k:=1) (by rw [<-HGC.out]; rfl),sp_cg (rest:=rest ++ _) HFf.out (k:=2) (by rw [<-HGC.out]; rfl),sp_cg (rest:=rest ++ _) HFf.out (k:=3) (by rw [<-HGC.out]; rfl),sp_cg (rest:=rest ++ _) HFf.out (k:=4) (by rw [<-HGC.out]; rfl),sp_cg (rest:=rest ++ _) HFf.out (k:=5) (by rw [<-HGC.out]; rfl),sp_cg (rest:=rest ++ _) HFf.out (k:=6) (by rw [<-HGC.out]; rfl),coQ (foot_at HFf.out (k:=0) rfl) 0,coQ (foot_at HFf.out (k:=1) rfl) 1,coQ (foot_at HFf.out (k:=2) rfl) 0,coQ (foot_at HFf.out (k:=2) rfl) 1⟩
  obtain ⟨q,hq1,hq2⟩:=HGO.out s HBX.out
  obtain ⟨hs61,hs60⟩:=beh_range HV.out HBX.out
  have KG:=hid (Go_any (HG.out.below HFf.out.bel) (HA.out.below HFf.out.bel) HNX.out (i:Int) s (by omega) (by omega))
  rw [hq1] at KG
  have HE0:=hid (S13.X15.ask_first (c:=cx) (p:=(i,x)) (S:=S) (by rw [HCXG.out]; exact HBX.out))
  rw [hq2] at HE0
  obtain ⟨hqP,_⟩:=HAIN.out S HSL.out _ (List.mem_of_getElem? HE0.out)
  have HQP:=hid hqP
  clear hlk nn hfn hfn2 vn0 vn1 vn2 hq1 hq2 hqP
  refine region_T 6 (fun w'=>w'.cell? ⟨bS,7,none⟩=some (.map (some bA))/\w'.cell? ⟨w.heap.size,0,none⟩=some (.int .i64 (i:Int))/\w'.cell? ⟨w.heap.size,1,none⟩=some (.int .i64 x.1)/\w'.cell? ⟨w.heap.size,2,none⟩=some (.int .i64 x.2)/\(Instr.lookup 152 (.map (some bA)) (.agg #[.int .i64 (i:Int),.int .i64 x.1,.int .i64 x.2]) false).run Tryz.prog w'=.ok (u64 S) w') (by kernel_rfl) (by rw [ewz]; exact HH0) (fun inv hHeld=>?_)
  rw [ewz]
  clear hHeld ewz
  iterate 5
   refine anyT_auto (v:=?_) rfl (by kernel_rfl) (fun _ _ _ h=>h) (Or.inl ⟨by rfl,?_⟩) HH0 inv (fun inv=>?_)
   rotate_left
   ·intro w hSw
    try dsimp only at hSw
    go_simp
    try with_reducible rfl
   simp only [Act.put,sjA,sj0,sjS]
  refine anyT_take (i:=5) (oi:={dst:=some 21,op:=.lookup 152 (.tmp 19) (.tmp 20) false,type:=69,pos := "look.go:102",after:=#[{on:=3,ground:=.data},{on:=4,ground:=.data}],guard:=none}) (v:=u64 S) rfl (by kernel_rfl) (by kernel_rfl) (by kernel_rfl) (by decide) (by decide) (by kernel_rfl) (by kernel_rfl) (fun _ _ _ h=>h) (Or.inl ⟨by rfl,?_⟩) HH0 inv (fun inv=>?_)
  ·intro w hSw
   try dsimp only at hSw
   exact look_exec rfl rfl rfl hSw.2.2.2.2
  simp only [Act.put,sjA,sj0,sjS]
  refine anyT_one (i:=6) (o:={dst:=some 5,op:=.assign (.tmp 21),type:=69,pos := "look.go:102",after:=#[{on:=5,ground:=.data},{on:=0,ground:=.phase},{on:=1,ground:=.phase},{on:=2,ground:=.phase},{on:=3,ground:=.phase},{on:=4,ground:=.phase},{on:=5,ground:=.phase}],guard:=none}) (by kernel_rfl) rfl (fun K' hK=>?_)
  go_simp
  refine hK.out _ _ (fun h=>absurd h (by decide)) ?_
  clear hK K'
  try simp only [Act.put,sjA,sj0,sjS]
  refine anyT_done (by kernel_rfl) ?_ _
  clear HH0
  go_wp2_with fail
  clear d1 d2 vc0 vf0 vc1 vf1 ve0 ve1 en hwx
  refine region_T 17 (fun w'=>w'.cell? ⟨bS,0,none⟩=some (tv)/\w'.cell? ⟨bS,1,none⟩=some (ov)/\w'.cell? ⟨bS,2,none⟩=some (sv)/\w'.cell? ⟨bS,3,none⟩=some (.slice pa np pc)/\w'.cell? ⟨bS,4,none⟩=some (.int .i64 G.start)/\w'.cell? ⟨bS,5,none⟩=some (kv)/\w'.cell? ⟨bS,6,none⟩=some (nv)/\w'.cell? ⟨w.heap.size,0,none⟩=some (.int .i64 (i:Int))/\w'.cell? ⟨bc,1,none⟩=some (.int .i64 s)/\w'.cell? ⟨wz.heap.size,0,none⟩=some (.int .i64 x.1)/\w'.cell? ⟨wz.heap.size,1,none⟩=some (.int .i64 (x.2 + 1))) (by kernel_rfl) (by rw [ewf]; exact HH1) (fun inv hHeld=>?_)
  rw [ewf]
  clear hHeld ewf
  iterate 15
   refine anyT_auto (v:=?_) rfl (by kernel_rfl) (fun _ _ _ h=>h) (Or.inl ⟨by rfl,?_⟩) HH1 inv (fun inv=>?_)
   rotate_left
   ·intro w hSw
    try dsimp only at hSw
    go_simp
    try with_reducible rfl
   simp only [Act.put,sjA,sj0,sjS]
  refine anyT_next (i:=13) (o:={dst:=some 43,op:=.call {callee:=.value (.func 27),args:=#[.tmp 34,.tmp 38,.tmp 40,.tmp 42],argTypes:=#[27,55,3,61]},type:=3,pos := "look.go:104",after:=#[{on:=4,ground:=.data},{on:=8,ground:=.data},{on:=10,ground:=.data},{on:=12,ground:=.data}],guard:=none}) (by kernel_rfl) rfl (by decide) inv (fun inv K' hK=>?_)
  go_simp
  refine KG.out.mono ?_
  rintro e w8 ⟨rfl,hb8⟩
  have HF8:=hid (HFf.out.below hb8)
  have HH2:w8.cell? ⟨bS,0,none⟩=some (tv)/\w8.cell? ⟨bS,1,none⟩=some (ov)/\w8.cell? ⟨bS,2,none⟩=some (sv)/\w8.cell? ⟨bS,3,none⟩=some (.slice pa np pc)/\w8.cell? ⟨bS,4,none⟩=some (.int .i64 G.start)/\w8.cell? ⟨bS,5,none⟩=some (kv)/\w8.cell? ⟨bS,6,none⟩=some (nv)/\w8.cell? ⟨w.heap.size,0,none⟩=some (.int .i64 (i:Int))/\w8.cell? ⟨bc,1,none⟩=some (.int .i64 s)/\w8.cell? ⟨wz.heap.size,0,none⟩=some (.int .i64 x.1)/\w8.cell? ⟨wz.heap.size,1,none⟩=some (.int .i64 (x.2 + 1)):=⟨sp_cg (rest:=rest ++ _) HF8.out (k:=0) (by rw [<-HGC.out]; rfl),sp_cg (rest:=rest ++ _) HF8.out (k:=1) (by rw [<-HGC.out]; rfl),sp_cg (rest:=rest ++ _) HF8.out (k:=2) (by rw [<-HGC.out]; rfl),sp_cg (rest:=rest ++ _) HF8.out (k:=3) (by rw [<-HGC.out]; rfl),sp_cg (rest:=rest ++ _) HF8.out (k:=4) (by rw [<-HGC.out]; rfl),sp_cg (rest:=rest ++ _) HF8.out (k:=5) (by rw [<-HGC.out]; rfl),sp_cg (rest:=rest ++ _) HF8.out (k:=6) (by rw [<-HGC.out]; rfl),coQ (foot_at HF8.out (k:=0) rfl) 0,coQ (foot_at HF8.out (k:=1) rfl) 1,coQ (foot_at HF8.out (k:=2) rfl) 0,coQ (foot_at HF8.out (k:=2) rfl) 1⟩
  have KA:=hid (add_any (rest:=rest ++ _) HF8.out hgl (q,(x.1,x.2 + 1)) (HPLK.out _ HQP.out) S HSL.out (HW.out.base.low _) (by have:=HQB.out; omega))
  unfold plV at KA
  refine hK.out _ _ HH2 ?_
  clear hK K' HH1 hb8
  try simp only [Act.put,sjA,sj0,sjS]
  iterate 1
   refine anyT_auto (v:=?_) rfl (by kernel_rfl) (fun _ _ _ h=>h) (Or.inl ⟨by rfl,?_⟩) HH2 inv (fun inv=>?_)
   rotate_left
   ·intro w hSw
    try dsimp only at hSw
    go_simp
    try with_reducible rfl
   simp only [Act.put,sjA,sj0,sjS]
  refine anyT_one (i:=17) (o:={dst:=some 47,op:=.call {callee:=.value (.func 87),args:=#[.tmp 30,.tmp 45,.tmp 46],argTypes:=#[151,158,69]},type:=0,pos := "look.go:104",after:=#[{on:=0,ground:=.data},{on:=15,ground:=.data},{on:=16,ground:=.data},{on:=13,ground:=.chain}],guard:=none}) (by kernel_rfl) rfl (fun K' hK=>?_)
  go_simp
  refine KA.out.mono ?_
  rintro e w9 ⟨rfl,LA2,qv2,Q2,hf9,hcase⟩
  obtain ⟨hw9,hm9,hm92⟩:=ws_step HMO.out HW.out HE0.out HQP.out HSL.out hcase
  rw [HQ.out.1,HQ.out.2] at hm9 hm92
  have HF9:=hid (show Foot W.heap.size W w9 (spItems W.heap.size bS bA bC G gc LA2 LC' qv2 Q2 rest ++ [blkI w.heap.size (.cells #[.int .i64 (i:Int),.int .i64 x.1,.int .i64 x.2] 158 (0,0)),blkI bc (.cells #[.bool true,.int .i64 s,u64 mf,.bool me] 193 (0,0))]) from foot_drops (m:=[blkI wz.heap.size (.cells #[.int .i64 x.1,.int .i64 (x.2 + 1)] 60 (0,0))]) (by rw [List.append_assoc]; exact hf9))
  have HW9:=hid hw9
  have HM9:=hid (And.intro hm9 hm92)
  refine hK.out _ _ (fun h=>absurd h (by decide)) ?_
  clear hK K' HH2 hf9 hcase hw9 hm9 hm92
  try simp only [Act.put,sjA,sj0,sjS]
  refine anyT_done (by kernel_rfl) ?_ _
  clear KA KG HE0 HF8 HFf HFu HFz HF7 HQP
  have g1:w9.cell? ⟨bc,1,none⟩=some (.int .i64 s):=coQ (foot_at HF9.out (k:=1) rfl) 1
  have g3:w9.cell? ⟨bc,3,none⟩=some (.bool me):=coQ (foot_at HF9.out (k:=1) rfl) 3
  have gp:w9.cell? ⟨bS,3,none⟩=some (.slice pa np pc):=sp_cg (rest:=rest ++ _) HF9.out (k:=3) (by rw [<-HGC.out]; rfl)
  by_cases hs:s < 0
  case neg =>
   have hs1:decide (0<=s)=true:=decide_eq_true (by omega)
   have hs2:0<=s:=by omega
   have HLEN:=hid (S13.X15.ask_len (c:=cx) (p:=(i,x)) (S:=S) (by rw [HCXG.out]; exact HBX.out))
   rw [if_neg hs] at HLEN
   go_wp2_with fail
   refine bodyPost_ret (results_none rfl _ _ _) rfl ?_
   exact HPOST.out _ _ ⟨rfl,LA2,LC',qv2,Q2,foot_drops HF9.out,HW9.out.end_ (by rw [HLEN.out]; omega),HM9.out.1,HM9.out.2⟩
  have hs1:decide (0<=s)=false:=decide_eq_false (by omega)
  have hs2:¬ 0<=s:=by omega
  have HLEN:=hid (S13.X15.ask_len (c:=cx) (p:=(i,x)) (S:=S) (by rw [HCXG.out]; exact HBX.out))
  rw [if_pos hs] at HLEN
  obtain ⟨hc1,hc2⟩:=HCO.out s HBX.out hs
  rw [HM.out.2.2.1] at hc1
  rw [HM.out.2.2.2] at hc2
  have hws:IntKind.i64.wrap (-1 - s)=-1 - s:=wrap_small (by omega) (by omega)
  have HC12:=hid (And.intro hc1 hc2)
  clear hc1 hc2
  cases me
  ·obtain ⟨S2,hS2⟩:∃ S2:Nat,S2=0:=⟨_,rfl⟩
   have HS2:=hid hS2
   have HNEED:=hid (show ∀ j,j < G.prods.length->X14.sortX G j=-1 - s->(askX cx (i,x) S)[1 + (needX cx (i,x) S s j).length]?=some ((i,((j:Int),(0:Int))),mf ||| S2) from fun j hj he=>by
    have:=S13.X15.ask_at (c:=cx) (p:=(i,x)) (S:=S) (m:=j) (by rw [HCXG.out]; exact HBX.out) hs (by rw [HCXG.out]; exact hj) (by rw [HCXG.out,he])
    rw [<-HC12.out.1,<-HC12.out.2] at this
    rw [Nat.add_comm,this,hS2]
    rfl)
   clear hS2
   go_wp2_with fail
   clear g1 g3 gp
   go_loopw [7,8,60] (fun t7 t8 t60 wz=>∃ (j:Nat) (LA1:List (Pl × Nat)) (qv1:Value) (Q1:List Pl),j<=np/\t60=.int .i64 (j:Int)/\Hid (Foot W.heap.size W wz (spItems W.heap.size bS bA bC G gc LA1 LC' qv1 Q1 rest ++ [blkI w.heap.size (.cells #[.int .i64 (i:Int),.int .i64 x.1,.int .i64 x.2] 158 (0,0)),blkI bc (.cells #[.bool true,.int .i64 s,S13.u64 mf,.bool false] 193 (0,0))]))/\Hid (WS (askX cx) PS b0 v0 (getA LA1) Q1 (i,x) S (1 + (needX cx (i,x) S s j).length))/\Hid (Q1.length + miss PS (getA LA1)<=l0 + m0/\Q1.length + 2 * miss PS (getA LA1)<=l0 + 2 * m0/\∀ q,Sub (getA LA q) (getA LA1 q))) (fun _ _ t60 _=>np - (RowKit.intOf t60).toNat)
   case atStart=>exact ⟨0,LA2,qv2,Q2,Nat.zero_le _,rfl,HF9,hid (show WS (askX cx) PS b0 v0 (getA LA2) Q2 (i,x) S (1 + (needX cx (i,x) S s 0).length) from HW9.out),HM9⟩
   case round =>
    clear HF9 HW9 HM9
    obtain ⟨j,LA1,qv1,Q1,hjn,rfl,HF9,HW9,HM9⟩:=hrel
    by_cases hlj:j < np
    ·have j1:(j:Int) < (np:Int):=by omega
     have j0:(0:Int)<=(j:Int):=by omega
     obtain ⟨tv1,ov1,sv1,pv1,tf,rv,hg⟩:=HG.out
     have hge:=hg.eq
     cases hge
     obtain ⟨pa1,pc1,hpe,hpn,hpx⟩:=hg.prods
     injection hpe with hpe1 hpe2 hpe3
     have hjl:j < G.prods.length:=by omega
     obtain ⟨pb,po,hpb,hpq⟩:=hpx (by omega)
     obtain ⟨p0,p1,p2,p3⟩:=hpq j hjl
     have hpb2:pa=some ⟨pb,po,none⟩:=hpe1.trans hpb
     clear hpe1 hpb
     subst hpb2
     obtain ⟨⟨ra,rc,hre,_,_⟩,_⟩:=hg.rights j hjl
     rw [hre] at p2
     obtain ⟨rn,hrn⟩:=nmQ ((G.prods.getD j default).rs.length)
     rw [hrn] at p2
     obtain ⟨lab,hlab⟩:=nmQ ((G.prods.getD j default).lab)
     rw [hlab] at p0
     obtain ⟨so,hso⟩:=nmQ ((G.prods.getD j default).sort)
     rw [hso] at p1
     obtain ⟨cl,hcl⟩:=nmQ ((G.prods.getD j default).cls)
     rw [hcl] at p3
     have HSO:=hid (show X14.sortX G j=so from hso)
     have p0:=cell_below HF9.out.bel p0
     have p1:=cell_below HF9.out.bel p1
     have p2:=cell_below HF9.out.bel p2
     have p3:=cell_below HF9.out.bel p3
     obtain ⟨wx,ewx⟩:=nmQ (wr.alloc (.cells #[.string ⟨#[]⟩,.int .i64 0,.slice none 0 0,.int .i64 0] 71))
     have nx:wx.heap[wr.heap.size]?=some (.cells #[.string ⟨#[]⟩,.int .i64 0,.slice none 0 0,.int .i64 0] 71 (0,0)):=nbQ ewx
     have bn0:wx.heap[wr.heap.size]?=some (.cells #[.string ⟨#[]⟩,.int .i64 0,.slice none 0 0,.int .i64 0] 71 (0,0)):=nx
     have bc0:wx.cell? ⟨wr.heap.size,0,none⟩=some (.string ⟨#[]⟩):=coQ bn0 0
     have bf0:=foQ bn0 0
     obtain ⟨a1,be0⟩:=nmQ (wx.setCell ⟨wr.heap.size,0,none⟩ (.string lab))
     have bn1:a1.heap[wr.heap.size]?=some (.cells #[.string lab,.int .i64 0,.slice none 0 0,.int .i64 0] 71 (0,0)):=hsQ be0 bn0
     have bc1:a1.cell? ⟨wr.heap.size,1,none⟩=some (.int .i64 0):=coQ bn1 1
     have bf1:=foQ bn1 1
     obtain ⟨a2,be1⟩:=nmQ (a1.setCell ⟨wr.heap.size,1,none⟩ (.int .i64 so))
     have bn2:a2.heap[wr.heap.size]?=some (.cells #[.string lab,.int .i64 so,.slice none 0 0,.int .i64 0] 71 (0,0)):=hsQ be1 bn1
     have bc2:a2.cell? ⟨wr.heap.size,2,none⟩=some (.slice none 0 0):=coQ bn2 2
     have bf2:=foQ bn2 2
     obtain ⟨a3,be2⟩:=nmQ (a2.setCell ⟨wr.heap.size,2,none⟩ (.slice ra rn rc))
     have bn3:a3.heap[wr.heap.size]?=some (.cells #[.string lab,.int .i64 so,.slice ra rn rc,.int .i64 0] 71 (0,0)):=hsQ be2 bn2
     have bc3:a3.cell? ⟨wr.heap.size,3,none⟩=some (.int .i64 0):=coQ bn3 3
     have bf3:=foQ bn3 3
     obtain ⟨a4,be3⟩:=nmQ (a3.setCell ⟨wr.heap.size,3,none⟩ (.int .i64 cl))
     have bn4:a4.heap[wr.heap.size]?=some (.cells #[.string lab,.int .i64 so,.slice ra rn rc,.int .i64 cl] 71 (0,0)):=hsQ be3 bn3
     have hba:Below wr.heap.size wr a4:=by
      rw [<-be3,<-be2,<-be1,<-be0,<-ewx]
      exact (((((Below.refl _ _).alloc (Nat.le_refl _) _).setCell (Nat.le_refl _) _).setCell (Nat.le_refl _) _).setCell (Nat.le_refl _) _).setCell (Nat.le_refl _) _
     have HFa:=hid (HF9.out.below hba)
     have ca1:a4.cell? ⟨wr.heap.size,1,none⟩=some (.int .i64 so):=coQ bn4 1
     have g1:a4.cell? ⟨bc,1,none⟩=some (.int .i64 s):=coQ (foot_at HFa.out (k:=1) rfl) 1
     clear hpn hpx hpq hre hrn hlab hso hcl nx bn0 bn1 bn2 bn3 bn4 hba hg hpe2 hpe3
     by_cases hst:so=-1 - s
     ·have t0:(so == -1 - s)=true:=by simpa using hst
      obtain ⟨wd,ewd⟩:=nmQ (a4.drew)
      have HFd:=hid (HFa.out.below (show Below a4.heap.size a4 wd by exact bdQ ewd))
      have HH0:wd.cell? ⟨w.heap.size,0,none⟩=some (.int .i64 (i:Int))/\wd.cell? ⟨bc,2,none⟩=some (S13.u64 mf):=⟨coQ (foot_at HFd.out (k:=0) rfl) 0,coQ (foot_at HFd.out (k:=1) rfl) 2⟩
      have HE1:=hid (HNEED.out j hjl (by rw [HSO.out,hst]))
      obtain ⟨hqP,hvl⟩:=HAIN.out S HSL.out _ (List.mem_of_getElem? HE1.out)
      have HQP:=hid hqP
      have HVL:=hid (show mf ||| S2 < top from hvl)
      have HS2L:=hid (show S2 < top from Nat.lt_of_le_of_lt (S13.sub_le (S13.sub_or_right mf S2)) HVL.out)
      have KA:=hid (add_any (rest:=rest ++ _) HFd.out hgl (i,((j:Int),(0:Int))) (HPLK.out _ HQP.out) (mf ||| S2) HVL.out (HW9.out.base.low _) (by have:=HM9.out.1; have:=HQB.out; have:=HQ.out.1; have:=HQ.out.2; omega))
      unfold plV at KA
      have KU:=hid (show Calls Tryz.prog 70 #[S13.u64 mf,.int .u64 0] wd (fun e w'=>e=.returned (S13.u64 (mf ||| S2))/\wd=w') from by
       have:=S13.Union_any mf S2 HML.out HS2L.out wd
       rw [HS2.out] at this ⊢
       exact this)
      have HNX2:=hid (show 1 + (needX cx (i,x) S s (j + 1)).length=1 + (needX cx (i,x) S s j).length + 1 from by
       rw [S13.X15.needX_more,if_pos (by rw [HCXG.out,HSO.out,hst]),List.length_append]
       rfl)
      clear hqP hvl hst
      go_wp2_with fail
      clear bc0 bf0 bc1 bf1 bc2 bf2 bc3 bf3 be0 be1 be2 be3 ewx p0 p1 p2 p3 ca1 g1
      refine region_T 10 (fun w'=>w'.cell? ⟨w.heap.size,0,none⟩=some (.int .i64 (i:Int))/\w'.cell? ⟨bc,2,none⟩=some (S13.u64 mf)) (by kernel_rfl) (by rw [ewd]; exact HH0) (fun inv hHeld=>?_)
      rw [ewd]
      clear hHeld ewd
      iterate 9
       refine anyT_auto (v:=?_) rfl (by kernel_rfl) (fun _ _ _ h=>h) (Or.inl ⟨by rfl,?_⟩) HH0 inv (fun inv=>?_)
       rotate_left
       ·intro w hSw
        try dsimp only at hSw
        go_simp
        try with_reducible rfl
       simp only [Act.put,sjA,sj0,sjS]
      refine anyT_next (i:=9) (o:={dst:=some 80,op:=.call {callee:=.value (.func 70),args:=#[.tmp 78,.tmp 79],argTypes:=#[69,69]},type:=69,pos := "look.go:113",after:=#[{on:=7,ground:=.data},{on:=8,ground:=.data}],guard:=none}) (by kernel_rfl) rfl (by decide) inv (fun inv K' hK=>?_)
      go_simp
      refine KU.out.mono ?_
      rintro e w2 ⟨rfl,rfl⟩
      refine hK.out _ _ HH0 ?_
      clear hK K'
      try simp only [Act.put,sjA,sj0,sjS]
      refine anyT_one (i:=10) (o:={dst:=some 81,op:=.call {callee:=.value (.func 87),args:=#[.tmp 71,.tmp 76,.tmp 80],argTypes:=#[151,158,69]},type:=0,pos := "look.go:113",after:=#[{on:=0,ground:=.data},{on:=5,ground:=.data},{on:=9,ground:=.data},{on:=9,ground:=.chain}],guard:=none}) (by kernel_rfl) rfl (fun K' hK=>?_)
      go_simp
      refine KA.out.mono ?_
      rintro e w9 ⟨rfl,LA3,qv3,Q3,hf9,hcase⟩
      obtain ⟨hw9,hm9,hm92⟩:=ws_step HMO.out HW9.out HE1.out HQP.out HVL.out hcase
      have HF3:=hid hf9
      have HW3:=hid hw9
      rw [<-HNX2.out] at HW3
      have HM3:=hid (And.intro (Nat.le_trans hm9 HM9.out.1) (And.intro (Nat.le_trans hm92.1 HM9.out.2.1) (fun q=>S13.sub_trans (HM9.out.2.2 q) (hm92.2 q))))
      refine hK.out _ _ (fun h=>absurd h (by decide)) ?_
      clear hK K' HH0 hf9 hcase hw9 hm9 hm92
      try simp only [Act.put,sjA,sj0,sjS]
      refine anyT_done (by kernel_rfl) ?_ _
      go_wp2_with fail
      refine ⟨⟨j + 1,LA3,qv3,Q3,by omega,rfl,HF3,HW3,HM3⟩,?_⟩
      show np - ((j:Int) + 1).toNat < np - ((j:Int)).toNat
      omega
     ·have t0:(so == -1 - s)=false:=by rw [beq_eq_false_iff_ne]; exact hst
      have HNS:=hid hst
      clear hst
      have HNX2:=hid (show 1 + (needX cx (i,x) S s (j + 1)).length=1 + (needX cx (i,x) S s j).length from by
       rw [S13.X15.needX_more,if_neg (by rw [HCXG.out,HSO.out]; exact HNS.out),List.append_nil])
      go_wp2_with fail
      refine ⟨⟨j + 1,LA1,qv1,Q1,by omega,rfl,HFa,hid (by rw [HNX2.out]; exact HW9.out),HM9⟩,?_⟩
      show np - ((j:Int) + 1).toNat < np - ((j:Int)).toNat
      omega
    ·have j1:¬ (j:Int) < (np:Int):=by omega
     have hje:j=np:=by omega
     have HDONE:=hid (HW9.out.end_ (by rw [HLEN.out,HCXG.out,hje,HNPL.out]; exact Nat.le_refl _))
     clear hje
     go_wp2_with fail
     refine bodyPost_ret (results_none rfl _ _ _) rfl ?_
     exact HPOST.out _ _ ⟨rfl,LA1,LC',qv1,Q1,foot_drops HF9.out,HDONE.out,HM9.out.1,HM9.out.2⟩
  ·obtain ⟨S2,hS2⟩:∃ S2:Nat,S2=S:=⟨_,rfl⟩
   have HS2:=hid hS2
   have HNEED:=hid (show ∀ j,j < G.prods.length->X14.sortX G j=-1 - s->(askX cx (i,x) S)[1 + (needX cx (i,x) S s j).length]?=some ((i,((j:Int),(0:Int))),mf ||| S2) from fun j hj he=>by
    have:=S13.X15.ask_at (c:=cx) (p:=(i,x)) (S:=S) (m:=j) (by rw [HCXG.out]; exact HBX.out) hs (by rw [HCXG.out]; exact hj) (by rw [HCXG.out,he])
    rw [<-HC12.out.1,<-HC12.out.2] at this
    rw [Nat.add_comm,this,hS2]
    rfl)
   clear hS2
   go_wp2_with fail
   clear g1 g3 gp
   go_loopw [7,8,60] (fun t7 t8 t60 wz=>∃ (j:Nat) (LA1:List (Pl × Nat)) (qv1:Value) (Q1:List Pl),j<=np/\t60=.int .i64 (j:Int)/\Hid (Foot W.heap.size W wz (spItems W.heap.size bS bA bC G gc LA1 LC' qv1 Q1 rest ++ [blkI w.heap.size (.cells #[.int .i64 (i:Int),.int .i64 x.1,.int .i64 x.2] 158 (0,0)),blkI bc (.cells #[.bool true,.int .i64 s,S13.u64 mf,.bool true] 193 (0,0))]))/\Hid (WS (askX cx) PS b0 v0 (getA LA1) Q1 (i,x) S (1 + (needX cx (i,x) S s j).length))/\Hid (Q1.length + miss PS (getA LA1)<=l0 + m0/\Q1.length + 2 * miss PS (getA LA1)<=l0 + 2 * m0/\∀ q,Sub (getA LA q) (getA LA1 q))) (fun _ _ t60 _=>np - (RowKit.intOf t60).toNat)
   case atStart=>exact ⟨0,LA2,qv2,Q2,Nat.zero_le _,rfl,HF9,hid (show WS (askX cx) PS b0 v0 (getA LA2) Q2 (i,x) S (1 + (needX cx (i,x) S s 0).length) from HW9.out),HM9⟩
   case round =>
    clear HF9 HW9 HM9
    obtain ⟨j,LA1,qv1,Q1,hjn,rfl,HF9,HW9,HM9⟩:=hrel
    by_cases hlj:j < np
    ·have j1:(j:Int) < (np:Int):=by omega
     have j0:(0:Int)<=(j:Int):=by omega
     obtain ⟨tv1,ov1,sv1,pv1,tf,rv,hg⟩:=HG.out
     have hge:=hg.eq
     cases hge
     obtain ⟨pa1,pc1,hpe,hpn,hpx⟩:=hg.prods
     injection hpe with hpe1 hpe2 hpe3
     have hjl:j < G.prods.length:=by omega
     obtain ⟨pb,po,hpb,hpq⟩:=hpx (by omega)
     obtain ⟨p0,p1,p2,p3⟩:=hpq j hjl
     have hpb2:pa=some ⟨pb,po,none⟩:=hpe1.trans hpb
     clear hpe1 hpb
     subst hpb2
     obtain ⟨⟨ra,rc,hre,_,_⟩,_⟩:=hg.rights j hjl
     rw [hre] at p2
     obtain ⟨rn,hrn⟩:=nmQ ((G.prods.getD j default).rs.length)
     rw [hrn] at p2
     obtain ⟨lab,hlab⟩:=nmQ ((G.prods.getD j default).lab)
     rw [hlab] at p0
     obtain ⟨so,hso⟩:=nmQ ((G.prods.getD j default).sort)
     rw [hso] at p1
     obtain ⟨cl,hcl⟩:=nmQ ((G.prods.getD j default).cls)
     rw [hcl] at p3
     have HSO:=hid (show X14.sortX G j=so from hso)
     have p0:=cell_below HF9.out.bel p0
     have p1:=cell_below HF9.out.bel p1
     have p2:=cell_below HF9.out.bel p2
     have p3:=cell_below HF9.out.bel p3
     obtain ⟨wx,ewx⟩:=nmQ (wr.alloc (.cells #[.string ⟨#[]⟩,.int .i64 0,.slice none 0 0,.int .i64 0] 71))
     have nx:wx.heap[wr.heap.size]?=some (.cells #[.string ⟨#[]⟩,.int .i64 0,.slice none 0 0,.int .i64 0] 71 (0,0)):=nbQ ewx
     have bn0:wx.heap[wr.heap.size]?=some (.cells #[.string ⟨#[]⟩,.int .i64 0,.slice none 0 0,.int .i64 0] 71 (0,0)):=nx
     have bc0:wx.cell? ⟨wr.heap.size,0,none⟩=some (.string ⟨#[]⟩):=coQ bn0 0
     have bf0:=foQ bn0 0
     obtain ⟨a1,be0⟩:=nmQ (wx.setCell ⟨wr.heap.size,0,none⟩ (.string lab))
     have bn1:a1.heap[wr.heap.size]?=some (.cells #[.string lab,.int .i64 0,.slice none 0 0,.int .i64 0] 71 (0,0)):=hsQ be0 bn0
     have bc1:a1.cell? ⟨wr.heap.size,1,none⟩=some (.int .i64 0):=coQ bn1 1
     have bf1:=foQ bn1 1
     obtain ⟨a2,be1⟩:=nmQ (a1.setCell ⟨wr.heap.size,1,none⟩ (.int .i64 so))
     have bn2:a2.heap[wr.heap.size]?=some (.cells #[.string lab,.int .i64 so,.slice none 0 0,.int .i64 0] 71 (0,0)):=hsQ be1 bn1
     have bc2:a2.cell? ⟨wr.heap.size,2,none⟩=some (.slice none 0 0):=coQ bn2 2
     have bf2:=foQ bn2 2
     obtain ⟨a3,be2⟩:=nmQ (a2.setCell ⟨wr.heap.size,2,none⟩ (.slice ra rn rc))
     have bn3:a3.heap[wr.heap.size]?=some (.cells #[.string lab,.int .i64 so,.slice ra rn rc,.int .i64 0] 71 (0,0)):=hsQ be2 bn2
     have bc3:a3.cell? ⟨wr.heap.size,3,none⟩=some (.int .i64 0):=coQ bn3 3
     have bf3:=foQ bn3 3
     obtain ⟨a4,be3⟩:=nmQ (a3.setCell ⟨wr.heap.size,3,none⟩ (.int .i64 cl))
     have bn4:a4.heap[wr.heap.size]?=some (.cells #[.string lab,.int .i64 so,.slice ra rn rc,.int .i64 cl] 71 (0,0)):=hsQ be3 bn3
     have hba:Below wr.heap.size wr a4:=by
      rw [<-be3,<-be2,<-be1,<-be0,<-ewx]
      exact (((((Below.refl _ _).alloc (Nat.le_refl _) _).setCell (Nat.le_refl _) _).setCell (Nat.le_refl _) _).setCell (Nat.le_refl _) _).setCell (Nat.le_refl _) _
     have HFa:=hid (HF9.out.below hba)
     have ca1:a4.cell? ⟨wr.heap.size,1,none⟩=some (.int .i64 so):=coQ bn4 1
     have g1:a4.cell? ⟨bc,1,none⟩=some (.int .i64 s):=coQ (foot_at HFa.out (k:=1) rfl) 1
     clear hpn hpx hpq hre hrn hlab hso hcl nx bn0 bn1 bn2 bn3 bn4 hba hg hpe2 hpe3
     by_cases hst:so=-1 - s
     ·have t0:(so == -1 - s)=true:=by simpa using hst
      obtain ⟨wd,ewd⟩:=nmQ (a4.drew)
      have HFd:=hid (HFa.out.below (show Below a4.heap.size a4 wd by exact bdQ ewd))
      have HH0:wd.cell? ⟨w.heap.size,0,none⟩=some (.int .i64 (i:Int))/\wd.cell? ⟨bc,2,none⟩=some (S13.u64 mf):=⟨coQ (foot_at HFd.out (k:=0) rfl) 0,coQ (foot_at HFd.out (k:=1) rfl) 2⟩
      have HE1:=hid (HNEED.out j hjl (by rw [HSO.out,hst]))
      obtain ⟨hqP,hvl⟩:=HAIN.out S HSL.out _ (List.mem_of_getElem? HE1.out)
      have HQP:=hid hqP
      have HVL:=hid (show mf ||| S2 < top from hvl)
      have HS2L:=hid (show S2 < top from Nat.lt_of_le_of_lt (S13.sub_le (S13.sub_or_right mf S2)) HVL.out)
      have KA:=hid (add_any (rest:=rest ++ _) HFd.out hgl (i,((j:Int),(0:Int))) (HPLK.out _ HQP.out) (mf ||| S2) HVL.out (HW9.out.base.low _) (by have:=HM9.out.1; have:=HQB.out; have:=HQ.out.1; have:=HQ.out.2; omega))
      unfold plV at KA
      have KU:=hid (show Calls Tryz.prog 70 #[S13.u64 mf,S13.u64 S] wd (fun e w'=>e=.returned (S13.u64 (mf ||| S2))/\wd=w') from by
       have:=S13.Union_any mf S2 HML.out HS2L.out wd
       rw [HS2.out] at this ⊢
       exact this)
      have HNX2:=hid (show 1 + (needX cx (i,x) S s (j + 1)).length=1 + (needX cx (i,x) S s j).length + 1 from by
       rw [S13.X15.needX_more,if_pos (by rw [HCXG.out,HSO.out,hst]),List.length_append]
       rfl)
      clear hqP hvl hst
      go_wp2_with fail
      clear bc0 bf0 bc1 bf1 bc2 bf2 bc3 bf3 be0 be1 be2 be3 ewx p0 p1 p2 p3 ca1 g1
      refine region_T 10 (fun w'=>w'.cell? ⟨w.heap.size,0,none⟩=some (.int .i64 (i:Int))/\w'.cell? ⟨bc,2,none⟩=some (S13.u64 mf)) (by kernel_rfl) (by rw [ewd]; exact HH0) (fun inv hHeld=>?_)
      rw [ewd]
      clear hHeld ewd
      iterate 9
       refine anyT_auto (v:=?_) rfl (by kernel_rfl) (fun _ _ _ h=>h) (Or.inl ⟨by rfl,?_⟩) HH0 inv (fun inv=>?_)
       rotate_left
       ·intro w hSw
        try dsimp only at hSw
        go_simp
        try with_reducible rfl
       simp only [Act.put,sjA,sj0,sjS]
      refine anyT_next (i:=9) (o:={dst:=some 80,op:=.call {callee:=.value (.func 70),args:=#[.tmp 78,.tmp 79],argTypes:=#[69,69]},type:=69,pos := "look.go:113",after:=#[{on:=7,ground:=.data},{on:=8,ground:=.data}],guard:=none}) (by kernel_rfl) rfl (by decide) inv (fun inv K' hK=>?_)
      go_simp
      refine KU.out.mono ?_
      rintro e w2 ⟨rfl,rfl⟩
      refine hK.out _ _ HH0 ?_
      clear hK K'
      try simp only [Act.put,sjA,sj0,sjS]
      refine anyT_one (i:=10) (o:={dst:=some 81,op:=.call {callee:=.value (.func 87),args:=#[.tmp 71,.tmp 76,.tmp 80],argTypes:=#[151,158,69]},type:=0,pos := "look.go:113",after:=#[{on:=0,ground:=.data},{on:=5,ground:=.data},{on:=9,ground:=.data},{on:=9,ground:=.chain}],guard:=none}) (by kernel_rfl) rfl (fun K' hK=>?_)
      go_simp
      refine KA.out.mono ?_
      rintro e w9 ⟨rfl,LA3,qv3,Q3,hf9,hcase⟩
      obtain ⟨hw9,hm9,hm92⟩:=ws_step HMO.out HW9.out HE1.out HQP.out HVL.out hcase
      have HF3:=hid hf9
      have HW3:=hid hw9
      rw [<-HNX2.out] at HW3
      have HM3:=hid (And.intro (Nat.le_trans hm9 HM9.out.1) (And.intro (Nat.le_trans hm92.1 HM9.out.2.1) (fun q=>S13.sub_trans (HM9.out.2.2 q) (hm92.2 q))))
      refine hK.out _ _ (fun h=>absurd h (by decide)) ?_
      clear hK K' HH0 hf9 hcase hw9 hm9 hm92
      try simp only [Act.put,sjA,sj0,sjS]
      refine anyT_done (by kernel_rfl) ?_ _
      go_wp2_with fail
      refine ⟨⟨j + 1,LA3,qv3,Q3,by omega,rfl,HF3,HW3,HM3⟩,?_⟩
      show np - ((j:Int) + 1).toNat < np - ((j:Int)).toNat
      omega
     ·have t0:(so == -1 - s)=false:=by rw [beq_eq_false_iff_ne]; exact hst
      have HNS:=hid hst
      clear hst
      have HNX2:=hid (show 1 + (needX cx (i,x) S s (j + 1)).length=1 + (needX cx (i,x) S s j).length from by
       rw [S13.X15.needX_more,if_neg (by rw [HCXG.out,HSO.out]; exact HNS.out),List.append_nil])
      go_wp2_with fail
      refine ⟨⟨j + 1,LA1,qv1,Q1,by omega,rfl,HFa,hid (by rw [HNX2.out]; exact HW9.out),HM9⟩,?_⟩
      show np - ((j:Int) + 1).toNat < np - ((j:Int)).toNat
      omega
    ·have j1:¬ (j:Int) < (np:Int):=by omega
     have hje:j=np:=by omega
     have HDONE:=hid (HW9.out.end_ (by rw [HLEN.out,HCXG.out,hje,HNPL.out]; exact Nat.le_refl _))
     clear hje
     go_wp2_with fail
     refine bodyPost_ret (results_none rfl _ _ _) rfl ?_
     exact HPOST.out _ _ ⟨rfl,LA1,LC',qv1,Q1,foot_drops HF9.out,HDONE.out,HM9.out.1,HM9.out.2⟩
end Go.Proofs.YticmnfmijdgmbaaGreatDoor
