/- Span: of each sort, which parts of a row are derived from it. -/
import Derived.Test.YticmnfmijdgmbaaGreatDoorGa
import Derived.Test.YticmnfmijdgmbaaGreatDoorYu
import Derived.Test.YticmnfmijdgmbaaGreatDoorSl
set_option linter.unusedVariables false
set_option linter.unusedSimpArgs false
namespace Go.Proofs.YticmnfmijdgmbaaGreatDoor
open Go Go.RowKit Go.Lib
open X14 (It exG closeX iterB BuiltOk BuiltMany rightX behX sortX)
open S13 (u64 bitN top E0 F0 Sub hasN)
open S16
open S13.X15 (Pl LeastA askX places cxB)
theorem info75:(Tryz.prog.info? 75).map (fun i=>(i.zero,i.size,i.bytes))=some (some (.slice none 0 0),1,24):=by kernel_rfl
theorem info147:(Tryz.prog.info? 147).map (fun i=>(i.zero,i.size,i.bytes))=some (some (.slice none 0 0),1,24):=by kernel_rfl
theorem pickY5:∀ a,a < 5->∀ b,b < 5->([0,1,2,4,3]:List Nat).getD a 0=([0,1,2,4,3]:List Nat).getD b 0->a=b:=by decide
def readC (w:World) (leaf:Nat->Nat->Nat) (A m k:Nat):Bool:=match w.cell? ⟨leaf A m,k,none⟩ with
 | some (.bool b)=>b
 | _=>false
theorem cntF_congr {S M:Nat} {C C':Nat->Nat->Nat->Bool} (h:∀ A m k,A < S->m < M->k < M->C A m k=C' A m k):cntF S M C=cntF S M C':=by
 unfold cntF
 refine List.countP_congr fun x hx=>?_
 rw [List.mem_range] at hx
 have h0:0 < M:=by
  rcases Nat.eq_zero_or_pos M with e | e
  ·subst e; simp at hx
  ·exact e
 have h1:x / M < S * M:=(Nat.div_lt_iff_lt_mul h0).2 hx
 rw [h (x / M / M) (x / M % M) (x % M) ((Nat.div_lt_iff_lt_mul h0).2 h1) (Nat.mod_lt _ h0) (Nat.mod_lt _ h0)]
theorem LeafSt.read {w:World} {cv:Value} {S M:Nat} {leaf:Nat->Nat->Nat} {C:Nat->Nat->Nat->Bool} (h:LeafSt w cv S M leaf C):cntF S M (readC w leaf)=cntF S M C:=
 cntF_congr fun A m k hA hm hk=>by
  unfold readC
  rw [bO_cell (h.at_ A m hA hm) hk]
structure SpInv (w wr:World) (gb:Obj) (dv:Value) (S M:Nat) (leaf:Nat->Nat->Nat) (Tl:(Nat->Nat->Nat->Bool)->Prop) (C0 C:Nat->Nat->Nat->Bool) (c:Bool) (Z:Prop):Prop where
 bel:Below w.heap.size w wr
 blk:wr.heap[w.heap.size]?=some gb
 st:LeafSt wr dv S M leaf C
 tells:Tl C
 old:∀ A m k,C0 A m k=true->C A m k=true
 same:c=false->C=C0/\Z
 less:c=true->cntF S M C < cntF S M C0
theorem SpInv.below {w wr w':World} {gb:Obj} {dv:Value} {S M:Nat} {leaf:Nat->Nat->Nat} {Tl:(Nat->Nat->Nat->Bool)->Prop} {C0 C:Nat->Nat->Nat->Bool} {c:Bool} {Z:Prop} (h:SpInv w wr gb dv S M leaf Tl C0 C c Z) (hb:Below wr.heap.size wr w'):SpInv w w' gb dv S M leaf Tl C0 C c Z:=
 ⟨h.bel.trans (hb.mono h.bel.size),(hb.block _ (ltQ h.blk)).trans h.blk,h.st.below hb,h.tells,h.old,h.same,h.less⟩
theorem SpInv.z {w wr:World} {gb:Obj} {dv:Value} {S M:Nat} {leaf:Nat->Nat->Nat} {Tl:(Nat->Nat->Nat->Bool)->Prop} {C0 C:Nat->Nat->Nat->Bool} {c:Bool} {Z Z':Prop} (h:SpInv w wr gb dv S M leaf Tl C0 C c Z) (hz:c=false->Z->Z'):SpInv w wr gb dv S M leaf Tl C0 C c Z':=
 ⟨h.bel,h.blk,h.st,h.tells,h.old,fun e=>⟨(h.same e).1,hz e (h.same e).2⟩,h.less⟩
theorem SpInv.fresh {w wr:World} {gb:Obj} {dv:Value} {S M:Nat} {leaf:Nat->Nat->Nat} {Tl:(Nat->Nat->Nat->Bool)->Prop} {C0 C:Nat->Nat->Nat->Bool} {c:Bool} {Z Z':Prop} (h:SpInv w wr gb dv S M leaf Tl C0 C c Z) (hz:Z'):SpInv w wr gb dv S M leaf Tl C C false Z':=
 ⟨h.bel,h.blk,h.st,h.tells,fun _ _ _ e=>e,fun _=>⟨rfl,hz⟩,fun e=>by cases e⟩
theorem SpInv.cnt {w wr:World} {gb:Obj} {dv:Value} {S M:Nat} {leaf:Nat->Nat->Nat} {Tl:(Nat->Nat->Nat->Bool)->Prop} {C0 C:Nat->Nat->Nat->Bool} {c:Bool} {Z:Prop} (h:SpInv w wr gb dv S M leaf Tl C0 C c Z):cntF S M C<=cntF S M C0:=by
 cases c with
 | false=>rw [(h.same rfl).1]; exact Nat.le_refl _
 | true=>exact Nat.le_of_lt (h.less rfl)
theorem SpInv.set {w wr:World} {gb:Obj} {dv:Value} {S M:Nat} {leaf:Nat->Nat->Nat} {Tl:(Nat->Nat->Nat->Bool)->Prop} {C0 C:Nat->Nat->Nat->Bool} {c:Bool} {Z Z':Prop} (h:SpInv w wr gb dv S M leaf Tl C0 C c Z) (hleaf:∀ A m,A < S->m < M->w.heap.size < leaf A m) {A m k:Nat} (hA:A < S) (hm:m < M) (hk:k < M) (hC:C A m k=false)
  (ht:Tl (fun A' m' k'=>if A'=A/\m'=m/\k'=k then true else C A' m' k')):SpInv w (wr.setCell ⟨leaf A m,k,none⟩ (.bool true)) gb dv S M leaf Tl C0 (fun A' m' k'=>if A'=A/\m'=m/\k'=k then true else C A' m' k') true Z':=
 ⟨h.bel.setCell (Nat.le_of_lt (hleaf A m hA hm)) _,by
  rw [Below.heap_setCell wr ⟨leaf A m,k,none⟩ _ w.heap.size (fun e=>by have h1:=hleaf A m hA hm; have h2:w.heap.size=leaf A m:=e; omega)]
  exact h.blk,h.st.set hA hm hk true,ht,fun A' m' k' e=>by
  show (if A'=A/\m'=m/\k'=k then true else C A' m' k')=true
  split
  ·rfl
  ·exact h.old A' m' k' e,(fun e=>by cases e),fun _=>Nat.lt_of_lt_of_le (cntF_set hA hm hk hC) h.cnt⟩
structure SpOut (w wr:World) (gb:Obj) (dv:Value) (S M:Nat) (leaf:Nat->Nat->Nat) (Tl Cl:(Nat->Nat->Nat->Bool)->Prop) (C:Nat->Nat->Nat->Bool) (c:Bool):Prop where
 bel:Below w.heap.size w wr
 blk:wr.heap[w.heap.size]?=some gb
 st:LeafSt wr dv S M leaf C
 tells:Tl C
 done:c=false->Cl C
def clP (G:GD) (l:List Int) (C0:Nat->Nat->Nat->Bool) (p i k:Nat):Prop:=i<=k->LR.endsE l C0 (G.prods.getD p default).rs (fun j=>j == i) k=true->C0 (G.prods.getD p default).sort.toNat i k=true
def zP (G:GD) (l:List Int) (M:Nat) (C0:Nat->Nat->Nat->Bool) (p i j:Nat):Prop:=(∀ p',p' < p->∀ i',i' < M->∀ k,k < M->clP G l C0 p' i' k)/\(∀ i',i' < i->∀ k,k < M->clP G l C0 p i' k)/\∀ k,k < j->clP G l C0 p i k
theorem zP.one {G:GD} {l:List Int} {M:Nat} {C0:Nat->Nat->Nat->Bool} {p i j:Nat} (h:zP G l M C0 p i j) (k:clP G l C0 p i j):zP G l M C0 p i (j + 1):=
 ⟨h.1,h.2.1,fun q hq=>by
  by_cases e:q=j
  ·subst e; exact k
  ·exact h.2.2 q (by omega)⟩
theorem zP.begin {G:GD} {l:List Int} {M:Nat} {C0:Nat->Nat->Nat->Bool} {p i:Nat} (h:zP G l M C0 p i 0):zP G l M C0 p i i:=⟨h.1,h.2.1,fun q hq hi=>absurd hi (by omega)⟩
theorem zP.row {G:GD} {l:List Int} {M:Nat} {C0:Nat->Nat->Nat->Bool} {p i:Nat} (h:zP G l M C0 p i M):zP G l M C0 p (i + 1) 0:=
 ⟨h.1,fun q hq=>by
  by_cases e:q=i
  ·subst e; exact h.2.2
  ·exact h.2.1 q (by omega),fun k hk=>absurd hk (Nat.not_lt_zero k)⟩
theorem zP.prod {G:GD} {l:List Int} {M:Nat} {C0:Nat->Nat->Nat->Bool} {p:Nat} (h:zP G l M C0 p M 0):zP G l M C0 (p + 1) 0 0:=
 ⟨fun q hq=>by
  by_cases e:q=p
  ·subst e; exact h.2.1
  ·exact h.1 q (by omega),fun k hk=>absurd hk (Nat.not_lt_zero k),fun k hk=>absurd hk (Nat.not_lt_zero k)⟩
theorem zP.zero {G:GD} {l:List Int} {M:Nat} {C0:Nat->Nat->Nat->Bool} : zP G l M C0 0 0 0:=⟨fun k hk=>absurd hk (Nat.not_lt_zero k),fun k hk=>absurd hk (Nat.not_lt_zero k),fun k hk=>absurd hk (Nat.not_lt_zero k)⟩
theorem zP.closed {G:GD} {l:List Int} {M n:Nat} {D:Nat->Nat->List It} {C0:Nat->Nat->Nat->Bool} (hV:validB G=true) (hM:l.length + 1=M) (h:zP G l M C0 G.prods.length 0 0):LR.ClosedE (mG G n D) l C0:=fun q hq m k h1 h2 h3=>by
 obtain ⟨p,hp,e⟩:=isp_prod hq
 have hs:=(row_of hV hp).1
 have hlt:=(List.getElem?_eq_some_iff.1 hp).1
 have hg:G.prods.getD q.toNat default=p:=by rw [gdQ,hp]; rfl
 have h4:=h.1 q.toNat hlt m (by omega) k (by omega)
 unfold clP at h4
 rw [hg] at h4
 rw [<-e,rt_at hp] at h3
 rw [<-e,srt_at hp,show (-1 - (-1 - p.sort)).toNat=p.sort.toNat by omega]
 exact h4 h1 h3
theorem tells_set {G:GD} {l:List Int} {n:Nat} {D:Nat->Nat->List It} {C C1:Nat->Nat->Nat->Bool} (hV:validB G=true) (h:LR.TellsE (mG G n D) l C) (hC:∀ A m k,C1 A m k=true->C A m k=true) {p i k:Nat} (hp:p < G.prods.length) (hi:i<=k) (hk:k<=l.length)
  (he:LR.endsE l C1 (G.prods.getD p default).rs (fun j=>j == i) k=true):LR.TellsE (mG G n D) l (fun A' m' k'=>if A'=(G.prods.getD p default).sort.toNat/\m'=i/\k'=k then true else C A' m' k'):=by
 have hg:G.prods[p]?=some (G.prods.getD p default):=by rw [gdQ,geQ hp]; rfl
 have hs:=(row_of hV hg).1
 have h1:=LR.tells_more h (isp_at hg) (srt_low hV _ (isp_at hg)) hi hk (by rw [rt_at hg]; exact LR.ends_mono hC _ (fun _ h=>h) _ he)
 rw [srt_at hg,show (-1 - (-1 - (G.prods.getD p default).sort)).toNat=(G.prods.getD p default).sort.toNat by omega] at h1
 refine fun A m j a b c=>h1 A m j a b ?_
 show (C A m j || (A == (G.prods.getD p default).sort.toNat && m == i && j == k))=true
 replace c:(if A=(G.prods.getD p default).sort.toNat/\m=i/\j=k then true else C A m j)=true:=c
 split at c
 ·rename_i e
  obtain ⟨rfl,rfl,rfl⟩:=e
  simp
 ·rw [c]; rfl
def SpanP (G:GD) (n:Nat) (D:Nat->Nat->List It) (l:List Int) (M:Nat) (w:World) (e:Ending) (w':World):Prop:=
 ∃ v C,e=.returned v/\CanAt w' v G.sorts.length M C/\LR.TellsE (mG G n D) l C/\LR.ClosedE (mG G n D) l C/\Below w.heap.size w w'
set_option maxRecDepth 100000 in
set_option maxHeartbeats 16000000 in
theorem Span_any {G:GD} {gv lv:Value} {w:World} {l:List Int} {M n:Nat} {D:Nat->Nat->List It} (h:Gram w gv G) (hV:validB G=true) (hl:IntsAt w lv l) (hN:l.length + 1=M) (hM:M<=1000):Calls Tryz.prog 83 #[gv,lv] w (SpanP G n D l M w):=by
 obtain ⟨tv,ov,sv,pv,tf,rv,h⟩:=h
 have hgv:=h.eq
 subst hgv
 obtain ⟨so,sc,rfl,hsn,_⟩:=h.sorts
 obtain ⟨po,pc,rfl,hpn,hpx⟩:=h.prods
 obtain ⟨lo,lc,rfl,_,_⟩:=id hl.1
 have HPX:=hid hpx
 have HRT:=hid h.rights
 have HLI:=hid hl
 have HV:=hid hV
 have HPB:=hid (show ∀ p,p < G.prods.length->0<=(G.prods.getD p default).sort/\(G.prods.getD p default).sort < G.sorts.length/\(G.prods.getD p default).rs.length<=12/\∀ s ∈ (G.prods.getD p default).rs,s < 0->(-1 - s).toNat < G.sorts.length from fun p hp=>by
  have h1:=S13.prodB_sortNat (S13.valid_prod hV hp)
  refine ⟨h1.1,h1.2.1,h1.2.2.1,fun s hs h0=>?_⟩
  rcases h1.2.2.2 s hs with h2 | h2 <;> omega)
 have hv0:=valid_start hV
 obtain ⟨N,hN0⟩:=nmQ (l.length)
 obtain ⟨S,hS⟩:=nmQ (G.sorts.length)
 obtain ⟨NP,hNP⟩:=nmQ (G.prods.length)
 have HN:=hid (show l.length=N/\G.sorts.length=S/\G.prods.length=NP/\N + 1=M/\M<=1000/\S<=60/\NP<=120 from ⟨hN0,hS,hNP,by omega,hM,by omega,by omega⟩)
 have n60:N<=999:=by omega
 rw [hN0] at HLI
 rw [hN0]
 rw [hNP] at HPX HRT HPB
 rw [hS] at HPB
 rw [hS,hNP]
 obtain ⟨W1,e1⟩:=nmQ (w.alloc (.cells #[tv,ov,.slice so S sc,.slice po NP pc,.int .i64 G.start] 27 (0,0)))
 have n1:W1.heap[w.heap.size]?=some (.cells #[tv,ov,.slice so S sc,.slice po NP pc,.int .i64 G.start] 27 (0,0)):=nbQ e1
 have f1:=foot_add1 (l:=[]) (Foot.empty w w.heap.size (Nat.le_refl _)) e1 n1
 have f2:=f1.add (leavesI M (fun _=>false) []) (Below.refl _ _) (fun b hb=>by cases hb) (fun c hc=>by
  have:c ∈ ([]:List Nat):=hc
  cases this)
 have f3:Foot w.heap.size w W1 [blkI w.heap.size (.cells #[tv,ov,.slice so S sc,.slice po NP pc,.int .i64 G.start] 27 (0,0)),leavesI M (fun _=>false) [],queI w.heap.size 1 (.slice none 0 0) 0 [],gI w.heap.size 1 []]:=foot_gnew (foot_newrow f2)
 have HF0:=hid f3
 clear h hV hl hsn hpn hpx hN hN0 hS hNP hv0 f1 f2 f3 n1 hM
 go_enter Tryz.func83,Tryz.ntmps83
 go_wp2_with fail
 clear e1
 go_loopw [6,7] (fun t6 t7 wr=>∃ (s:Nat) (dv:Value) (L:List Nat) (R:List (Value × Nat × List Value)),s<=S/\dv=t6/\t7=.int .i64 (s:Int)/\Hid (R.length=s/\L.length=s * M/\L.Nodup/\RowsOk (fL L M) R)/\Hid (Foot w.heap.size w wr [blkI w.heap.size (.cells #[tv,ov,.slice so S sc,.slice po NP pc,.int .i64 G.start] 27 (0,0)),leavesI M (fun _=>false) L,queI w.heap.size 1 dv s (R.map (·.1)),gI w.heap.size 1 R])) (fun _ t7 _=>S - (RowKit.intOf t7).toNat)
 case atStart=>exact ⟨0,_,[],[],Nat.zero_le _,rfl,rfl,hid ⟨rfl,by simp,List.nodup_nil,RowsOk.nil _⟩,HF0⟩
 case round =>
  clear HF0
  obtain ⟨s,dv,L,R,hsS,rfl,rfl,HR,HF⟩:=hrel
  have nG:wr.heap[w.heap.size]?=some (.cells #[tv,ov,.slice so S sc,.slice po NP pc,.int .i64 G.start] 27 (0,0)):=HF.out.ok 0 _ rfl
  obtain ⟨c0,c1,c2,c3,c4⟩:=cells5 nG
  clear nG
  by_cases hlt:s < S
  ·have j1:(s:Int) < (S:Int):=by omega
   have j0:(0:Int)<=(s:Int):=by omega
   have HFm:=hid (show Foot w.heap.size w wr [blkI w.heap.size (.cells #[tv,ov,.slice so S sc,.slice po NP pc,.int .i64 G.start] 27 (0,0)),leavesI M (fun _=>false) L,queI w.heap.size 1 dv s (R.map (·.1)),gI w.heap.size 1 R,queI w.heap.size 1 (.slice none 0 0) 0 (rowL L M s 0)] from foot_newrow HF.out)
   have HI0:=hid (show L.length=s * M + 0/\L.Nodup/\RowsOk (fL L M) R/\R.length=s from ⟨by rw [HR.out.2.1]; rfl,HR.out.2.2.1,HR.out.2.2.2,HR.out.1⟩)
   clear HF HR
   go_wp2_with fail
   clear c0 c1 c2 c3 c4
   go_loopw [8,9] (fun t8 t9 wr=>∃ (j:Nat) (mv:Value) (L:List Nat),j<=M/\mv=t8/\t9=.int .i64 (j:Int)/\Hid (L.length=s * M + j/\L.Nodup/\RowsOk (fL L M) R/\R.length=s)/\Hid (Foot w.heap.size w wr [blkI w.heap.size (.cells #[tv,ov,.slice so S sc,.slice po NP pc,.int .i64 G.start] 27 (0,0)),leavesI M (fun _=>false) L,queI w.heap.size 1 dv s (R.map (·.1)),gI w.heap.size 1 R,queI w.heap.size 1 mv j (rowL L M s j)])) (fun _ t9 _=>M - (RowKit.intOf t9).toNat)
   case atStart=>exact ⟨0,_,L,Nat.zero_le _,rfl,rfl,HI0,HFm⟩
   case round =>
    clear HFm HI0
    obtain ⟨j,mv,L,hjM,rfl,rfl,HI,HF⟩:=hrel
    obtain ⟨mo,mc,rfl⟩:=(show ownsT wr w.heap.size 1 mv j _ from HF.out.ok 4 _ rfl).shape
    by_cases hlj:j < M
    ·have k1:(j:Int)<=(N:Int):=by have:=HN.out; omega
     have k0:(0:Int)<=(j:Int):=by omega
     have hw:IntKind.i64.wrap ((N:Int) + 1)=(M:Int):=by have:=HN.out; rw [wrap_small (by omega) (by omega)]; omega
     have hmk:=S13.made_bools M (by have:=HN.out; omega) wr
     obtain ⟨wa,ea⟩:=nmQ (wr.alloc (.cells (Array.replicate M (.bool false)) 4))
     obtain ⟨bN,hbN⟩:=nmQ (wr.heap.size)
     have na:wa.heap[wr.heap.size]?=some (bO M fun _=>false):=by rw [<-ea,<-bO_made]; exact new_block _ _
     have hba:Below wr.heap.size wr wa:=baQ ea
     obtain ⟨fa,hnl⟩:=foot_leaf (l:=[]) (k:=1) HF.out rfl hba na
     rw [hbN] at fa hnl
     have HFa:=hid (show Foot w.heap.size w wa [blkI w.heap.size (.cells #[tv,ov,.slice so S sc,.slice po NP pc,.int .i64 G.start] 27 (0,0)),leavesI M (fun _=>false) (L ++ [bN]),queI w.heap.size 1 dv s (R.map (·.1)),gI w.heap.size 1 R,queI w.heap.size 1 (.slice mo j mc) j (rowL L M s j)] from fa)
     have HL2:=hid (show (L ++ [bN]).length=s * M + (j + 1)/\(L ++ [bN]).Nodup/\RowsOk (fL (L ++ [bN]) M) R/\R.length=s from ⟨by rw [List.length_append,HI.out.1]; rfl,nodup_push HI.out.2.1 hnl,rowsL_more HI.out.2.2.1 (by rw [HI.out.2.2.2,HI.out.1]; omega) _,HI.out.2.2.2⟩)
     have HXS:=hid (show rowL (L ++ [bN]) M s (j + 1)=rowL L M s j ++ [sl M bN] from rowL_push HI.out.1 bN)
     have HJ12:=hid (show j<=1000000000000 from by have:=HN.out; omega)
     rw [ea,hbN] at hmk
     clear fa hnl na hba HF HI
     obtain ⟨wz,ez⟩:=nmQ (wa.alloc (.cells #[(.slice (some ⟨bN,0,none⟩) M M)] 75))
     have nqwz:wz.heap[wa.heap.size]?=some (.cells #[(.slice (some ⟨bN,0,none⟩) M M)] 75 (0,0)):=nbQ ez
     have HFqwz:=hid (HFa.out.below (show Below wa.heap.size wa wz by exact baQ ez))
     have HCQwz:=hid (show ∀ jq u,([(.slice (some ⟨bN,0,none⟩) M M)]:List Value)[jq]?=some u->wz.cell? ⟨wa.heap.size,jq,none⟩=some u from fun jq u hi=>by
      rw [coQ nqwz,<-hi,<-List.getElem?_toArray])
     have HOQwz:=hid (show ∀ q ∈ ([(.slice (some ⟨bN,0,none⟩) M M)]:List Value),q.oneCell'=true from fun q hq=>by rw [List.mem_singleton.1 hq]; rfl)
     have HBqwz:=hid (show w.heap.size<=wz.heap.size from Nat.le_trans HFqwz.out.le HFqwz.out.bel.size)
     have HOWwz:=hid (show ownsT wz w.heap.size 1 (.slice mo j mc) j (rowL L M s j) from HFqwz.out.ok 4 _ rfl)
     clear nqwz
     go_wp2_with (refine wpList_push_T rfl (.tmp 29) (.tmp 33) 147 75 rfl (.slice none 0 0) 1 24 Tryz.underlying147 info75 rfl (by decide) (.slice mo j mc) j (rowL L M s j) rfl HOWwz.out wa.heap.size rfl [(.slice (some ⟨bN,0,none⟩) M M)] rfl HCQwz.out HOQwz.out HJ12.out HBqwz.out ?_)
     intro ao2 c8 w8 hown hg8 hat
     have h8:=HFqwz.out.push_que 4 rfl hown hg8 hat
     clear hown hg8 hat ez
     have HF8:=hid (show Foot w.heap.size w w8 [blkI w.heap.size (.cells #[tv,ov,.slice so S sc,.slice po NP pc,.int .i64 G.start] 27 (0,0)),leavesI M (fun _=>false) (L ++ [bN]),queI w.heap.size 1 dv s (R.map (·.1)),gI w.heap.size 1 R,queI w.heap.size 1 (.slice ao2 (j + 1) c8) (j + 1) (rowL (L ++ [bN]) M s (j + 1))] from by
      rw [HXS.out]
      exact h8)
     clear h8 hmk ea hbN hw
     go_wp2_with fail
     refine ⟨⟨j + 1,_,_,by omega,rfl,rfl,HL2,HF8⟩,?_⟩
     show M - ((j:Int) + 1).toNat < M - ((j:Int)).toNat
     omega
    ·have k1:¬ (j:Int)<=(N:Int):=by have:=HN.out; omega
     obtain rfl:j=M:=by omega
     obtain ⟨do_,dc,rfl⟩:=(show ownsT wr w.heap.size 1 dv s _ from HF.out.ok 2 _ rfl).shape
     have HS12:=hid (show s<=1000000000000 from by have:=HN.out; omega)
     obtain ⟨wq1,eq1⟩:=nmQ (wr.alloc (.cells #[.slice mo j mc] 147))
     have nqwq1:wq1.heap[wr.heap.size]?=some (.cells #[.slice mo j mc] 147 (0,0)):=nbQ eq1
     have HFqwq1:=hid (HF.out.below (show Below wr.heap.size wr wq1 by exact baQ eq1))
     have HCQwq1:=hid (show ∀ jq u,([.slice mo j mc]:List Value)[jq]?=some u->wq1.cell? ⟨wr.heap.size,jq,none⟩=some u from fun jq u hi=>by
      rw [coQ nqwq1,<-hi,<-List.getElem?_toArray])
     have HOQwq1:=hid (show ∀ q ∈ ([.slice mo j mc]:List Value),q.oneCell'=true from fun q hq=>by rw [List.mem_singleton.1 hq]; rfl)
     have HBqwq1:=hid (show w.heap.size<=wq1.heap.size from Nat.le_trans HFqwq1.out.le HFqwq1.out.bel.size)
     have HOWwq1:=hid (show ownsT wq1 w.heap.size 1 (.slice do_ s dc) s (R.map (·.1)) from HFqwq1.out.ok 2 _ rfl)
     clear nqwq1
     clear HF
     go_wp2_with (refine wpList_push_T rfl (.tmp 35) (.tmp 37) 148 147 rfl (.slice none 0 0) 1 24 Tryz.underlying148 info147 rfl (by decide) (.slice do_ s dc) s (R.map (·.1)) rfl HOWwq1.out wr.heap.size rfl [.slice mo j mc] rfl HCQwq1.out HOQwq1.out HS12.out HBqwq1.out ?_)
     intro ao8 c8 w8 hown hg8 hat
     have h8:=HFqwq1.out.push_que 2 rfl hown hg8 hat
     clear hown hg8 hat eq1
     have h10:=foot_gmove (l:=[blkI w.heap.size (.cells #[tv,ov,.slice so S sc,.slice po NP pc,.int .i64 G.start] 27 (0,0)),leavesI j (fun _=>false) L,queI w.heap.size 1 (.slice ao8 (s + 1) c8) (s + 1) ((R.map (·.1)) ++ [.slice mo j mc])]) (h8.pick [blkI w.heap.size (.cells #[tv,ov,.slice so S sc,.slice po NP pc,.int .i64 G.start] 27 (0,0)),leavesI j (fun _=>false) L,queI w.heap.size 1 (.slice ao8 (s + 1) c8) (s + 1) ((R.map (·.1)) ++ [.slice mo j mc]),queI w.heap.size 1 (.slice mo j mc) j (rowL L j s j),gI w.heap.size 1 R] (fun q=>[0,1,2,4,3].getD q 0) (fun q x hx=>by
      match q,hx with
      | 0,hx=>exact hx
      | 1,hx=>exact hx
      | 2,hx=>exact hx
      | 3,hx=>exact hx
      | 4,hx=>exact hx
      | q + 5,hx=>simp at hx) (fun a b ha hb he=>pickY5 a ha b hb he))
     have HF9:=hid (show Foot w.heap.size w w8 [blkI w.heap.size (.cells #[tv,ov,.slice so S sc,.slice po NP pc,.int .i64 G.start] 27 (0,0)),leavesI j (fun _=>false) L,queI w.heap.size 1 (.slice ao8 (s + 1) c8) (s + 1) ((R ++ [(Value.slice mo j mc,j,rowL L j s j)]).map (·.1)),gI w.heap.size 1 (R ++ [(Value.slice mo j mc,j,rowL L j s j)])] from by
      rw [List.map_append]
      exact h10)
     have HR9:=hid (show (R ++ [(Value.slice mo j mc,j,rowL L j s j)]).length=s + 1/\L.length=(s + 1) * j/\L.Nodup/\RowsOk (fL L j) (R ++ [(Value.slice mo j mc,j,rowL L j s j)]) from
      ⟨by rw [List.length_append,HI.out.2.2.2]; rfl,by rw [HI.out.1,Nat.add_mul,Nat.one_mul],HI.out.2.1,HI.out.2.2.1.push HI.out.2.2.2 _ rfl⟩)
     have j6:(s:Int)<=60:=by have:=HN.out; omega
     clear h8 h10 HI
     go_wp2_with fail
     refine ⟨⟨s + 1,_,_,_,by omega,rfl,rfl,HR9,HF9⟩,?_⟩
     show S - ((s:Int) + 1).toNat < S - ((s:Int)).toNat
     omega
  ·have j1:¬ (s:Int) < (S:Int):=by omega
   obtain rfl:s=S:=by omega
   obtain ⟨hst,hmem⟩:=leaf_laid HF.out HR.out.1 HR.out.2.1 HR.out.2.2.1 HR.out.2.2.2
   obtain ⟨leaf,hleaf⟩:=nmQ ((fun A m=>L.getD (A * M + m) 0))
   have HLEAF:=hid (show ∀ A m,A < s->m < M->w.heap.size < leaf A m from fun A m hA hm=>by
    rw [<-hleaf]
    have h1:=hmem A m hA hm
    have h2:=(HF.out.lt 1 _ rfl _ h1).1
    have h3:¬ L.getD (A * M + m) 0=w.heap.size:=fun e=>by
     have:=HF.out.apart 0 1 _ _ w.heap.size rfl rfl (List.mem_singleton.2 rfl) (e ▸ h1)
     omega
    show w.heap.size < L.getD (A * M + m) 0
    omega)
   rw [hleaf] at hst
   obtain ⟨do_,dc,rfl,_⟩:=hst.rows.len
   have HSP:=hid (show SpOut w wr (.cells #[tv,ov,.slice so s sc,.slice po NP pc,.int .i64 G.start] 27 (0,0)) (.slice do_ s dc) s M leaf (LR.TellsE (mG G n D) l) (LR.ClosedE (mG G n D) l) (fun _ _ _=>false) true from
    ⟨HF.out.bel,HF.out.ok 0 _ rfl,hst,LR.tells_none,fun e=>by cases e⟩)
   clear hst hmem hleaf HF HR
   go_wp2_with fail
   clear c0 c1 c2 c3 c4
   go_loopw [10] (fun t10 wr=>∃ (c:Bool) (C:Nat->Nat->Nat->Bool),t10=.bool c/\Hid (SpOut w wr (.cells #[tv,ov,.slice so s sc,.slice po NP pc,.int .i64 G.start] 27 (0,0)) (.slice do_ s dc) s M leaf (LR.TellsE (mG G n D) l) (LR.ClosedE (mG G n D) l) C c)) (fun t10 wr=>2 * cntF s M (readC wr leaf) + (match t10 with | .bool true=>1 | _=>0))
   case atStart=>exact ⟨true,_,rfl,HSP⟩
   case round =>
    clear HSP
    obtain ⟨c,C0,rfl,HO⟩:=hrel
    cases c
    ·go_wp2_with fail
     go_ret
     exact ⟨_,C0,rfl,by rw [HN.out.2.1]; exact HO.out.st.can HN.out.2.2.2.2.1,HO.out.tells,HO.out.done rfl,HO.out.bel⟩
    obtain ⟨K0,hK0⟩:=nmQ (cntF s M (readC wr leaf))
    have HK:=hid hK0
    have HK0:=hid (show cntF s M C0=K0 from HO.out.st.read.symm.trans hK0)
    have HI0:=hid (show SpInv w wr (.cells #[tv,ov,.slice so s sc,.slice po NP pc,.int .i64 G.start] 27 (0,0)) (.slice do_ s dc) s M leaf (LR.TellsE (mG G n D) l) C0 C0 false (zP G l M C0 0 0 0) from ⟨HO.out.bel,HO.out.blk,HO.out.st,HO.out.tells,fun _ _ _ h=>h,fun _=>⟨rfl,zP.zero⟩,fun e=>by cases e⟩)
    clear hK0
    go_wp2_with fail
    go_loopw [10,11] (fun t10 t11 wr=>∃ (c:Bool) (C:Nat->Nat->Nat->Bool) (p:Nat),p<=NP/\t10=.bool c/\t11=.int .i64 (p:Int)/\Hid (SpInv w wr (.cells #[tv,ov,.slice so s sc,.slice po NP pc,.int .i64 G.start] 27 (0,0)) (.slice do_ s dc) s M leaf (LR.TellsE (mG G n D) l) C0 C c (zP G l M C0 p 0 0))) (fun _ t11 _=>NP - (RowKit.intOf t11).toNat)
    case atStart=>exact ⟨false,C0,0,Nat.zero_le _,rfl,rfl,HI0⟩
    case round =>
     clear HI0
     obtain ⟨c,C,p,hp,rfl,rfl,HI⟩:=hrel
     have nG:=HI.out.blk
     have c3:=coQ nG 3
     clear nG
     by_cases hlp:p < NP
     ·have j1:(p:Int) < (NP:Int):=by omega
      have j0:(0:Int)<=(p:Int):=by omega
      have j6:(p:Int)<=120:=by have:=HN.out; omega
      obtain ⟨pb,pf,rfl,hpx⟩:=HPX.out (by omega)
      obtain ⟨_,hpc1,hpc2,_⟩:=hpx p hlp
      obtain ⟨hA0,hAS,hrl,hrs⟩:=HPB.out p hlp
      obtain ⟨Q,hQ⟩:=nmQ (G.prods.getD p default)
      have HQ:=hid hQ
      have HRI:=hid (show IntsAt w (rv p) Q.rs from hQ ▸ HRT.out p hlp)
      rw [hQ] at hpc1 hA0 hAS hrl hrs
      obtain ⟨A,hA⟩:=nmQ (Q.sort.toNat)
      have HAQ:=hid hA
      have hpc1:w.cell? ⟨pb,pf + p * 4 + 1,none⟩=some (.int .i64 (A:Int)):=by
       rw [hpc1,show Q.sort=(A:Int) by omega]
      have HC1:=hid hpc1
      have HC2:=hid hpc2
      have HRS:=hid (And.intro hrl hrs)
      have HAS:=hid (show A < s from by omega)
      clear hpc1 hpc2 hA hQ hA0 hAS hrl hrs hpx
      go_wp2_with fail
      clear c3
      go_loopw [10,12] (fun t10 t12 wr=>∃ (c:Bool) (C:Nat->Nat->Nat->Bool) (i:Nat),i<=M/\t10=.bool c/\t12=.int .i64 (i:Int)/\Hid (SpInv w wr (.cells #[tv,ov,.slice so s sc,.slice (some ⟨pb,pf,none⟩) NP pc,.int .i64 G.start] 27 (0,0)) (.slice do_ s dc) s M leaf (LR.TellsE (mG G n D) l) C0 C c (zP G l M C0 p i 0))) (fun _ t12 _=>M - (RowKit.intOf t12).toNat)
      case atStart=>exact ⟨c,C,0,Nat.zero_le _,rfl,rfl,HI⟩
      case round =>
       clear HI
       obtain ⟨c,C,i,hi,rfl,rfl,HI⟩:=hrel
       by_cases hli:i < M
       ·have k1:(i:Int)<=(N:Int):=by have:=HN.out; omega
        have k0:(0:Int)<=(i:Int):=by omega
        obtain ⟨wd,ewd⟩:=nmQ (wr.drew)
        have hbd:Below wr.heap.size wr wd:=bdQ ewd
        have HId:=hid (HI.out.below hbd)
        have HBd:=hid HId.out.bel
        have HOLD:=hid HId.out.old
        have HS:=hid (show ∀ w',Below wd.heap.size wd w'->w'.cell? ⟨w.heap.size,0,none⟩=some (tv)/\w'.cell? ⟨w.heap.size,1,none⟩=some (ov)/\w'.cell? ⟨w.heap.size,2,none⟩=some (.slice so s sc)/\w'.cell? ⟨w.heap.size,3,none⟩=some (.slice (some ⟨pb,pf,none⟩) NP pc)/\w'.cell? ⟨w.heap.size,4,none⟩=some (.int .i64 G.start)/\w'.cell? ⟨pb,pf + p * 4 + 2,none⟩=some (rv p) from fun w' hC=>by
         have nG:=(HId.out.below hC).blk
         exact ⟨coQ nG 0,coQ nG 1,coQ nG 2,coQ nG 3,coQ nG 4,cell_below (HBd.out.trans (hC.mono HBd.out.size)) HC2.out⟩)
        have HH0:=HS.out wd (Below.refl _ _)
        have HLE:=hid (Ends_any (tv:=tv) (ov:=ov) (sv:=.slice so s sc) (pv:=.slice (some ⟨pb,pf,none⟩) NP pc) (st:=G.start) (HId.out.st.can (by have:=HN.out; omega)) (HLI.out.mono HBd.out) (by have:=HN.out; omega) (by have:=HN.out; omega) (HRI.out.mono HBd.out) HRS.out.2 (by have:=HRS.out.1; omega) hli)
        have HLTB:=hid (show ∀ m,m < M->leaf A m < wd.heap.size from fun m hm=>(Array.getElem?_eq_some_iff.1 (HId.out.st.at_ A m HAS.out hm)).1)
        clear hbd HI
        go_wp2_with fail
        refine region_T 11 (fun w'=>w'.cell? ⟨w.heap.size,0,none⟩=some (tv)/\w'.cell? ⟨w.heap.size,1,none⟩=some (ov)/\w'.cell? ⟨w.heap.size,2,none⟩=some (.slice so s sc)/\w'.cell? ⟨w.heap.size,3,none⟩=some (.slice (some ⟨pb,pf,none⟩) NP pc)/\w'.cell? ⟨w.heap.size,4,none⟩=some (.int .i64 G.start)/\w'.cell? ⟨pb,pf + p * 4 + 2,none⟩=some (rv p)) (by kernel_rfl) (by rw [ewd]; exact HH0) (fun inv hHeld=>?_)
        rw [ewd]
        clear hHeld ewd
        iterate 10
         refine anyT_auto (v:=?_) rfl (by kernel_rfl) (fun _ _ _ h=>h) (Or.inl ⟨by rfl,?_⟩) HH0 inv (fun inv=>?_)
         rotate_left
         ·intro w hSw
          try dsimp only at hSw
          go_simp
          try with_reducible rfl
         simp only [Act.put,sjA,sj0,sjS]
        refine anyT_next (i:=10) (o:={dst:=some 62,op:=.call {callee:=.value (.func 85),args:=#[.tmp 52,.tmp 53,.tmp 54,.tmp 60,.tmp 61],argTypes:=#[27,148,43,64,3]},type:=75,pos := "ref.go:71",after:=#[{on:=0,ground:=.data},{on:=1,ground:=.data},{on:=2,ground:=.data},{on:=8,ground:=.data},{on:=9,ground:=.data}],guard:=none}) (by kernel_rfl) rfl (by decide) inv (fun inv K' hK=>?_)
        go_simp
        refine HLE.out.mono ?_
        rintro e w5 ⟨be,rfl,hbe,hbo,hb5⟩
        have HB5:=hid hb5
        have HBE:=hid hbe
        have HBO:=hid hbo
        clear hbe hbo
        have HH1:=HS.out w5 hb5
        clear hb5
        refine hK.out _ _ HH1 ?_
        clear hK K' HH0
        try simp only [Act.put,sjA,sj0,sjS]
        refine anyT_one (i:=11) (o:={dst:=some 13,op:=.assign (.tmp 62),type:=75,pos := "ref.go:71",after:=#[{on:=10,ground:=.data},{on:=10,ground:=.chain},{on:=0,ground:=.phase},{on:=1,ground:=.phase},{on:=2,ground:=.phase},{on:=3,ground:=.phase},{on:=4,ground:=.phase},{on:=5,ground:=.phase},{on:=6,ground:=.phase},{on:=7,ground:=.phase},{on:=8,ground:=.phase},{on:=9,ground:=.phase},{on:=10,ground:=.phase}],guard:=none}) (by kernel_rfl) rfl (fun K' hK=>?_)
        go_simp
        refine hK.out _ _ (fun h=>absurd h (by decide)) ?_
        clear hK K'
        try simp only [Act.put,sjA,sj0,sjS]
        refine anyT_done (by kernel_rfl) ?_ _
        clear HS HH1
        have HI5:=hid (show SpInv w w5 (.cells #[tv,ov,.slice so s sc,.slice (some ⟨pb,pf,none⟩) NP pc,.int .i64 G.start] 27 (0,0)) (.slice do_ s dc) s M leaf (LR.TellsE (mG G n D) l) C0 C c (zP G l M C0 p i i) from (HId.out.below HB5.out).z fun _ h=>h.begin)
        have HE5:=hid (show (∀ A m k,C A m k=true->C A m k=true)/\w5.heap[be]?=some (bO M (LR.endsE l C Q.rs fun j=>j == i)) from ⟨fun _ _ _ h=>h,HBO.out⟩)
        obtain ⟨E,hE⟩:=nmQ (LR.endsE l C Q.rs (fun j=>j == i))
        have HEE:=hid hE
        rw [hE] at HE5
        clear HId hE HBO
        go_wp2_with fail
        go_loopw [10,14] (fun t10 t14 wr=>∃ (c:Bool) (C':Nat->Nat->Nat->Bool) (j:Nat),i<=j/\j<=M/\t10=.bool c/\t14=.int .i64 (j:Int)/\Hid (SpInv w wr (.cells #[tv,ov,.slice so s sc,.slice (some ⟨pb,pf,none⟩) NP pc,.int .i64 G.start] 27 (0,0)) (.slice do_ s dc) s M leaf (LR.TellsE (mG G n D) l) C0 C' c (zP G l M C0 p i j))/\Hid ((∀ A m k,C A m k=true->C' A m k=true)/\wr.heap[be]?=some (bO M E))) (fun _ t14 _=>M - (RowKit.intOf t14).toNat)
        case atStart=>exact ⟨c,C,i,Nat.le_refl _,hi,rfl,rfl,HI5,HE5⟩
        case round =>
         clear HI5 HE5
         obtain ⟨c,C',j,hij,hj,rfl,rfl,HI,HE⟩:=hrel
         by_cases hlj:j < M
         ·have y1:(j:Int)<=(N:Int):=by have:=HN.out; omega
          have y0:(0:Int)<=(j:Int):=by omega
          have y2:(j:Int) < (M:Int):=by omega
          have cE:=bO_cell HE.out.2 hlj
          obtain ⟨eb,heb⟩:=nmQ (E j)
          have HEB:=hid heb
          rw [heb] at cE
          clear heb
          cases eb
          ·have HI9:=hid (show SpInv w wr (.cells #[tv,ov,.slice so s sc,.slice (some ⟨pb,pf,none⟩) NP pc,.int .i64 G.start] 27 (0,0)) (.slice do_ s dc) s M leaf (LR.TellsE (mG G n D) l) C0 C' c (zP G l M C0 p i (j + 1)) from HI.out.z fun _ h=>h.one fun h1 h2=>by
            rw [HQ.out] at h2
            have h3:=LR.ends_mono HOLD.out _ (fun _ h=>h) _ h2
            rw [HEE.out,HEB.out] at h3
            cases h3)
           go_wp2_with fail
           refine ⟨⟨c,C',j + 1,by omega,by omega,rfl,by go_num,HI9,HE⟩,?_⟩
           simp [RowKit.intOf]
           omega
          ·have HIb:=hid HI.out.bel
           have c3:=coQ HI.out.blk 3
           have cP:=cell_below HIb.out HC1.out
           have y3:(0:Int)<=(A:Int):=by omega
           have y4:(A:Int) < (s:Int):=by have:=HAS.out; omega
           have y5:(i:Int) < (M:Int):=by omega
           obtain ⟨b1,o1,u1,rfl,x1,x2⟩:=HI.out.st.rows.at_ HAS.out
           obtain ⟨co1,cc1,rfl,_⟩:=x2.len
           obtain ⟨b2,o2,u2',rfl,x3,rfl⟩:=x2.at_ hli
           have nL:=HI.out.st.at_ A i HAS.out hli
           have cL:=bO_cell nL hlj
           obtain ⟨cb,hcb⟩:=nmQ (C' A i j)
           have HCB:=hid hcb
           rw [hcb] at cL
           clear hcb
           cases cb
           ·have fL:=foQ nL j
            obtain ⟨v1,e6⟩:=nmQ (wr.setCell ⟨leaf A i,j,none⟩ (.bool true))
            have HI9:=hid (show SpInv w v1 (.cells #[tv,ov,.slice so s sc,.slice (some ⟨pb,pf,none⟩) NP pc,.int .i64 G.start] 27 (0,0)) (.slice (some ⟨b1,o1,none⟩) s dc) s M leaf (LR.TellsE (mG G n D) l) C0 (fun A' m' k'=>if A'=A/\m'=i/\k'=j then true else C' A' m' k') true (zP G l M C0 p i (j + 1)) from by
             rw [<-e6]
             refine HI.out.set HLEAF.out HAS.out hli hlj HCB.out ?_
             have h1:=tells_set HV.out HI.out.tells HE.out.1 (p:=p) (i:=i) (k:=j) (by rw [HN.out.2.2.1]; exact hlp) hij (by have:=HN.out; omega) (by rw [HQ.out,HEE.out]; exact HEB.out)
             rw [HQ.out,HAQ.out] at h1
             exact h1)
            have HE9:=hid (show (∀ A' m k,C A' m k=true->(fun A' m' k'=>if A'=A/\m'=i/\k'=j then true else C' A' m' k') A' m k=true)/\v1.heap[be]?=some (bO M E) from ⟨fun A' m k h=>by
             show (if A'=A/\m=i/\k=j then true else C' A' m k)=true
             split
             ·rfl
             ·exact HE.out.1 A' m k h,by
             rw [<-e6,Below.heap_setCell wr ⟨leaf A i,j,none⟩ _ be (fun e=>by have h1:=HLTB.out i hli; have h2:=HBE.out; have h3:be=leaf A i:=e; omega)]
             exact HE.out.2⟩)
            clear nL x2
            go_wp2_with fail
            refine ⟨⟨true,_,j + 1,by omega,by omega,rfl,by go_num,HI9,HE9⟩,?_⟩
            simp [RowKit.intOf]
            omega
           ·have HI9:=hid (show SpInv w wr (.cells #[tv,ov,.slice so s sc,.slice (some ⟨pb,pf,none⟩) NP pc,.int .i64 G.start] 27 (0,0)) (.slice (some ⟨b1,o1,none⟩) s dc) s M leaf (LR.TellsE (mG G n D) l) C0 C' c (zP G l M C0 p i (j + 1)) from HI.out.z fun hc h=>h.one fun h1 h2=>by
             rw [HQ.out,HAQ.out,<-(HI.out.same hc).1]
             exact HCB.out)
            clear nL x2
            go_wp2_with fail
            refine ⟨⟨c,C',j + 1,by omega,by omega,rfl,by go_num,HI9,HE⟩,?_⟩
            simp [RowKit.intOf]
            omega
         ·have y1:¬ (j:Int)<=(N:Int):=by have:=HN.out; omega
          obtain rfl:M=j:=by omega
          have HI9:=hid (show SpInv w wr (.cells #[tv,ov,.slice so s sc,.slice (some ⟨pb,pf,none⟩) NP pc,.int .i64 G.start] 27 (0,0)) (.slice do_ s dc) s M leaf (LR.TellsE (mG G n D) l) C0 C' c (zP G l M C0 p (i + 1) 0) from HI.out.z fun _ h=>h.row)
          go_wp2_with fail
          refine ⟨⟨c,C',i + 1,by omega,rfl,by go_num,HI9⟩,?_⟩
          simp [RowKit.intOf]
          omega
       ·have k1:¬ (i:Int)<=(N:Int):=by have:=HN.out; omega
        obtain rfl:M=i:=by omega
        have HI9:=hid (show SpInv w wr (.cells #[tv,ov,.slice so s sc,.slice (some ⟨pb,pf,none⟩) NP pc,.int .i64 G.start] 27 (0,0)) (.slice do_ s dc) s M leaf (LR.TellsE (mG G n D) l) C0 C c (zP G l M C0 (p + 1) 0 0) from HI.out.z fun _ h=>h.prod)
        go_wp2_with fail
        refine ⟨⟨c,C,p + 1,by omega,rfl,by go_num,HI9⟩,?_⟩
        simp [RowKit.intOf]
        omega
     ·have j1:¬ (p:Int) < (NP:Int):=by omega
      obtain rfl:NP=p:=by omega
      have HO9:=hid (show SpOut w wr (.cells #[tv,ov,.slice so s sc,.slice po NP pc,.int .i64 G.start] 27 (0,0)) (.slice do_ s dc) s M leaf (LR.TellsE (mG G n D) l) (LR.ClosedE (mG G n D) l) C c from
       ⟨HI.out.bel,HI.out.blk,HI.out.st,HI.out.tells,fun hc=>by
        obtain ⟨e,hz⟩:=HI.out.same hc
        rw [e]
        rw [<-HN.out.2.2.1] at hz
        exact hz.closed HV.out (by have:=HN.out; omega)⟩)
      have HRD:=hid (show cntF s M (readC wr leaf)=cntF s M C from HI.out.st.read)
      go_wp2_with fail
      refine ⟨⟨c,C,rfl,HO9⟩,?_⟩
      show 2 * cntF s M (readC _ leaf) + _ < 2 * cntF s M (readC _ leaf) + 1
      rw [HK.out,HRD.out]
      have hk0:=HK0.out
      cases c with
      | false =>
       rw [(HI.out.same rfl).1,hk0]
       exact Nat.lt_succ_self _
      | true =>
       have:=HI.out.less rfl
       rw [hk0] at this
       show 2 * cntF s M C + 1 < 2 * K0 + 1
       omega
end Go.Proofs.YticmnfmijdgmbaaGreatDoor
