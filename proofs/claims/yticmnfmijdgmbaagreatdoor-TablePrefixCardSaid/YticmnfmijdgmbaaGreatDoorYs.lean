/- Begins: whether a row is the beginning of something that is derived, where each sort lives. -/
import Derived.Test.YticmnfmijdgmbaaGreatDoorGa
import Derived.Test.YticmnfmijdgmbaaGreatDoorYo
import Derived.Test.YticmnfmijdgmbaaGreatDoorQKy
set_option linter.unusedVariables false
set_option linter.unusedSimpArgs false
namespace Go.Proofs.YticmnfmijdgmbaaGreatDoor
open Go Go.RowKit Go.Lib
open X14 (It exG closeX iterB BuiltOk BuiltMany rightX behX sortX)
open S13 (u64 bitN top E0 F0 Sub hasN)
open S16
open S13.X15 (Pl LeastA askX places cxB)
def readB (w:World) (leaf:Nat->Nat) (s k:Nat):Bool:=match w.cell? ⟨leaf s,k,none⟩ with
 | some (.bool b)=>b
 | _=>false
theorem cnt2_congr {S M:Nat} {B B':Nat->Nat->Bool} (h:∀ s k,s < S->k < M->B s k=B' s k):cnt2 S M B=cnt2 S M B':=by
 unfold cnt2
 refine List.countP_congr fun x hx=>?_
 rw [List.mem_range] at hx
 have h0:0 < M:=by
  rcases Nat.eq_zero_or_pos M with e | e
  ·subst e; simp at hx
  ·exact e
 rw [h (x / M) (x % M) ((Nat.div_lt_iff_lt_mul h0).2 hx) (Nat.mod_lt _ h0)]
theorem Leaf1.read {w:World} {bv:Value} {S M:Nat} {leaf:Nat->Nat} {B:Nat->Nat->Bool} (h:Leaf1 w bv S M leaf B):cnt2 S M (readB w leaf)=cnt2 S M B:=
 cnt2_congr fun s k hs hk=>by
  unfold readB
  rw [bO_cell (h.at_ s hs) hk]
theorem Leaf1.congr {w:World} {bv:Value} {S M:Nat} {leaf:Nat->Nat} {B B':Nat->Nat->Bool} (h:Leaf1 w bv S M leaf B) (hB:∀ s k,s < S->k < M->B s k=B' s k):Leaf1 w bv S M leaf B':=
 ⟨h.rows,fun s hs=>by rw [h.at_ s hs]; congr 1; exact bO_congr fun k hk=>hB s k hs hk,h.one⟩
structure BgInv (W wr:World) (bv:Value) (S M:Nat) (leaf:Nat->Nat) (Tl:(Nat->Nat->Bool)->Prop) (B0 B:Nat->Nat->Bool) (c:Bool) (Z:Prop):Prop where
 bel:Below W.heap.size W wr
 st:Leaf1 wr bv S M leaf B
 tells:Tl B
 same:c=false->B=B0/\Z
 less:c=true->cnt2 S M B < cnt2 S M B0
theorem BgInv.below {W wr w':World} {bv:Value} {S M:Nat} {leaf:Nat->Nat} {Tl:(Nat->Nat->Bool)->Prop} {B0 B:Nat->Nat->Bool} {c:Bool} {Z:Prop} (h:BgInv W wr bv S M leaf Tl B0 B c Z) (hb:Below wr.heap.size wr w'):BgInv W w' bv S M leaf Tl B0 B c Z:=
 ⟨h.bel.trans (hb.mono h.bel.size),h.st.below hb,h.tells,h.same,h.less⟩
theorem BgInv.z {W wr:World} {bv:Value} {S M:Nat} {leaf:Nat->Nat} {Tl:(Nat->Nat->Bool)->Prop} {B0 B:Nat->Nat->Bool} {c:Bool} {Z Z':Prop} (h:BgInv W wr bv S M leaf Tl B0 B c Z) (hz:c=false->Z->Z'):BgInv W wr bv S M leaf Tl B0 B c Z':=
 ⟨h.bel,h.st,h.tells,fun e=>⟨(h.same e).1,hz e (h.same e).2⟩,h.less⟩
theorem BgInv.cnt {W wr:World} {bv:Value} {S M:Nat} {leaf:Nat->Nat} {Tl:(Nat->Nat->Bool)->Prop} {B0 B:Nat->Nat->Bool} {c:Bool} {Z:Prop} (h:BgInv W wr bv S M leaf Tl B0 B c Z):cnt2 S M B<=cnt2 S M B0:=by
 cases c with
 | false=>rw [(h.same rfl).1]; exact Nat.le_refl _
 | true=>exact Nat.le_of_lt (h.less rfl)
theorem BgInv.set {W wr:World} {bv:Value} {S M:Nat} {leaf:Nat->Nat} {Tl:(Nat->Nat->Bool)->Prop} {B0 B:Nat->Nat->Bool} {c:Bool} {Z Z':Prop} (h:BgInv W wr bv S M leaf Tl B0 B c Z) (hleaf:∀ s,s < S->W.heap.size<=leaf s) {s k:Nat} (hs:s < S) (hk:k < M) (hB:B s k=false)
  (ht:Tl (fun s' k'=>if s'=s/\k'=k then true else B s' k')):BgInv W (wr.setCell ⟨leaf s,k,none⟩ (.bool true)) bv S M leaf Tl B0 (fun s' k'=>if s'=s/\k'=k then true else B s' k') true Z':=
 ⟨h.bel.setCell (hleaf s hs) _,h.st.set hs hk true,ht,(fun e=>by cases e),fun _=>Nat.lt_of_lt_of_le (cnt2_set hs hk hB) h.cnt⟩
structure BgOut (W wr:World) (bv:Value) (S M:Nat) (leaf:Nat->Nat) (Tl Cl:(Nat->Nat->Bool)->Prop) (B:Nat->Nat->Bool) (c:Bool):Prop where
 bel:Below W.heap.size W wr
 st:Leaf1 wr bv S M leaf B
 tells:Tl B
 done:c=false->Cl B
def clB (G:GD) (l:List Int) (C:Nat->Nat->Nat->Bool) (B0:Nat->Nat->Bool) (p i:Nat):Prop:=LR.begE l C B0 (G.prods.getD p default).rs i=true->B0 (G.prods.getD p default).sort.toNat i=true
def zB (G:GD) (l:List Int) (M:Nat) (C:Nat->Nat->Nat->Bool) (B0:Nat->Nat->Bool) (p i:Nat):Prop:=(∀ p',p' < p->∀ i',i' < M->clB G l C B0 p' i')/\∀ i',i' < i->clB G l C B0 p i'
theorem zB.one {G:GD} {l:List Int} {M:Nat} {C:Nat->Nat->Nat->Bool} {B0:Nat->Nat->Bool} {p i:Nat} (h:zB G l M C B0 p i) (k:clB G l C B0 p i):zB G l M C B0 p (i + 1):=
 ⟨h.1,fun q hq=>by
  by_cases e:q=i
  ·subst e; exact k
  ·exact h.2 q (by omega)⟩
theorem zB.prod {G:GD} {l:List Int} {M:Nat} {C:Nat->Nat->Nat->Bool} {B0:Nat->Nat->Bool} {p:Nat} (h:zB G l M C B0 p M):zB G l M C B0 (p + 1) 0:=
 ⟨fun q hq=>by
  by_cases e:q=p
  ·subst e; exact h.2
  ·exact h.1 q (by omega),fun k hk=>absurd hk (Nat.not_lt_zero k)⟩
theorem zB.zero {G:GD} {l:List Int} {M:Nat} {C:Nat->Nat->Nat->Bool} {B0:Nat->Nat->Bool} : zB G l M C B0 0 0:=⟨fun k hk=>absurd hk (Nat.not_lt_zero k),fun k hk=>absurd hk (Nat.not_lt_zero k)⟩
theorem zB.closed {G:GD} {l:List Int} {M n:Nat} {D:Nat->Nat->List It} {C:Nat->Nat->Nat->Bool} {B0:Nat->Nat->Bool} (hV:validB G=true) (hM:l.length + 1=M) (h:zB G l M C B0 G.prods.length 0):LR.ClosedB (mG G n D) l C B0:=fun q hq i h1 h3=>by
 obtain ⟨p,hp,e⟩:=isp_prod hq
 have hs:=(row_of hV hp).1
 have hlt:=(List.getElem?_eq_some_iff.1 hp).1
 have hg:G.prods.getD q.toNat default=p:=by rw [gdQ,hp]; rfl
 have h4:=h.1 q.toNat hlt i (by omega)
 unfold clB at h4
 rw [hg] at h4
 rw [<-e,rt_at hp] at h3
 rw [<-e,srt_at hp,show (-1 - (-1 - p.sort)).toNat=p.sort.toNat by omega]
 exact h4 h3
def TlB (G:GD) (n:Nat) (D:Nat->Nat->List It) (l:List Int) (S:Nat) (B:Nat->Nat->Bool):Prop:=LR.TellsB (mG G n D) l B/\∀ s,s < S->B s l.length=true
theorem tlB_set {G:GD} {l:List Int} {n:Nat} {D:Nat->Nat->List It} {C:Nat->Nat->Nat->Bool} {B:Nat->Nat->Bool} {L:List Bool} (hV:validB G=true) (hLv:S13.Least true G.prods G.sorts.length L) (hall:∀ j,j < G.sorts.length->L.getD j false=true) (hC:LR.TellsE (mG G n D) l C) (h:TlB G n D l G.sorts.length B) {p i:Nat} (hp:p < G.prods.length) (hi:i<=l.length)
  (he:LR.begE l C B (G.prods.getD p default).rs i=true):TlB G n D l G.sorts.length (fun s' k'=>if s'=(G.prods.getD p default).sort.toNat/\k'=i then true else B s' k'):=by
 have hg:G.prods[p]?=some (G.prods.getD p default):=by rw [gdQ,geQ hp]; rfl
 have hs:=(row_of hV hg).1
 have h1:=LR.tellsB_more hC h.1 (isp_at hg) (srt_low hV _ (isp_at hg)) (fun s hs=>sym_live hV hLv hall hs) hi (by rw [rt_at hg]; exact he)
 rw [srt_at hg,show (-1 - (-1 - (G.prods.getD p default).sort)).toNat=(G.prods.getD p default).sort.toNat by omega] at h1
 refine ⟨h1,fun s hs=>?_⟩
 show (if s=(G.prods.getD p default).sort.toNat/\l.length=i then true else B s l.length)=true
 split
 ·rfl
 ·exact h.2 s hs
theorem tlB_start {G:GD} {l:List Int} {n:Nat} {D:Nat->Nat->List It} {L:List Bool} (hV:validB G=true) (hLv:S13.Least true G.prods G.sorts.length L) (hall:∀ j,j < G.sorts.length->L.getD j false=true) {B:Nat->Nat->Bool} (hB:∀ s k,B s k=true->k=l.length/\s < G.sorts.length) (hB2:∀ s,s < G.sorts.length->B s l.length=true):TlB G n D l G.sorts.length B:=
 ⟨fun s i hi h=>by
  obtain ⟨rfl,hs⟩:=hB s i h
  obtain ⟨y,hy⟩:=sort_live (n:=n) (D:=D) hV hLv hall hs
  exact ⟨y,by rw [LR.seg_self]; exact hy⟩,hB2⟩
theorem begs_end {G:GD} {l:List Int} {n:Nat} {D:Nat->Nat->List It} {C:Nat->Nat->Nat->Bool} {B:Nat->Nat->Bool} {L:List Bool} (hV:validB G=true) (hLv:S13.Least true G.prods G.sorts.length L) (hall:∀ j,j < G.sorts.length->L.getD j false=true) (hC:LR.TellsE (mG G n D) l C) (hcl:LR.ClosedE (mG G n D) l C) (hT:TlB G n D l G.sorts.length B) (hb:LR.ClosedB (mG G n D) l C B) :
  B G.start.toNat 0=true ↔ ∃ y,LR.Der (mG G n D) [-1 - G.start] (l ++ y):=by
 have hst:=valid_start hV
 rw [<-start_cast hV]
 refine LR.begs_iff hC hcl hT.1 hb (fun q hq=>?_) (srt_low hV) ?_
 ·obtain ⟨p,hp,e⟩:=isp_prod hq
  have hs:=row_of hV hp
  rw [<-e,srt_at hp,show (-1 - (-1 - p.sort)).toNat=p.sort.toNat by omega]
  exact hT.2 _ (by omega)
 ·obtain ⟨y,hy⟩:=sort_live (n:=n) (D:=D) hV hLv hall (s:=G.start.toNat) (by omega)
  exact der_prod (by omega) hy
theorem begK_succ (l:List Int) (C:Nat->Nat->Nat->Bool) (B:Nat->Nat->Bool) (rs:List Int) (i k:Nat):LR.begK l C B rs i (k + 1)=(LR.begK l C B rs i k || LR.begAt l C B rs i k (l.length + 1)):=by
 unfold LR.begK
 rw [List.range_succ,List.any_append]
 simp
theorem begAt_start (l:List Int) (C:Nat->Nat->Nat->Bool) (B:Nat->Nat->Bool) (rs:List Int) (i k:Nat):LR.begAt l C B rs i k i=false:=by
 unfold LR.begAt
 rw [List.any_eq_false]
 intro j hj
 rw [List.mem_range] at hj
 rw [decide_eq_false (by omega)]
 simp
theorem begAt_succ (l:List Int) (C:Nat->Nat->Nat->Bool) (B:Nat->Nat->Bool) (rs:List Int) {i k e:Nat} (h:i<=e):LR.begAt l C B rs i k (e + 1)=(LR.begAt l C B rs i k e || (LR.endsE l C (rs.take k) (fun m=>m == i) e && LR.oneE l B (rs.getD k 0) e)):=by
 unfold LR.begAt
 rw [List.range_succ,List.any_append]
 simp [h]
theorem can_below {w w':World} {cv:Value} {S M:Nat} {C:Nat->Nat->Nat->Bool} (h:CanAt w cv S M C) (hb:Below w.heap.size w w'):CanAt w' cv S M C:=
 RowsAt.below h hb fun _ _ hu=>hu.below hb fun _ _ hu=>RowAt.mono hu fun _ _ _ hc=>cell_below hb hc
theorem pv_next {l:List Int} {C:Nat->Nat->Nat->Bool} {B:Nat->Nat->Bool} {rs:List Int} {i k e:Nat} {isv pv eb ob:Bool} (h:pv=(isv || LR.begAt l C B rs i k e)) (hie:i<=e) (h1:LR.endsE l C (rs.take k) (fun m=>m == i) e=eb) (h2:LR.oneE l B (rs.getD k 0) e=ob):(pv || (eb && ob))=(isv || LR.begAt l C B rs i k (e + 1)):=by
 rw [begAt_succ l C B rs hie,h1,h2,h,Bool.or_assoc]
theorem ints_take {w:World} {a:Option Addr} {n c k:Nat} {rs:List Int} (h:IntsAt w (.slice a n c) rs) (hk:k<=rs.length):IntsAt w (.slice a k c) (rs.take k):=by
 obtain ⟨⟨o,c',e,hl,hx⟩,hr⟩:=h
 injection e with e1 e2 e3
 subst e1 e3
 refine ⟨⟨a,c,by rw [List.length_take,Nat.min_eq_left hk],by rw [List.length_take]; omega,fun h0=>?_⟩,fun x hx=>hr x (List.mem_of_mem_take hx)⟩
 rw [List.length_take,Nat.min_eq_left hk] at h0
 obtain ⟨b,off,e,hq⟩:=hx (by omega)
 refine ⟨b,off,e,fun i hi=>?_⟩
 rw [List.length_take,Nat.min_eq_left hk] at hi
 have h2:w.cell? ⟨b,off + i,none⟩=some (.int .i64 (rs.getD i 0)):=hq i (by omega)
 show w.cell? ⟨b,off + i,none⟩=some (.int .i64 ((rs.take k).getD i 0))
 rw [h2,gdQ,gdQ,List.getElem?_take,if_pos hi]
set_option maxRecDepth 100000 in
set_option maxHeartbeats 16000000 in
theorem Begins_any {G:GD} {gv lv:Value} {w:World} {l:List Int} {n:Nat} {D:Nat->Nat->List It} {L:List Bool} (h:Gram w gv G) (hV:validB G=true) (hl:IntsAt w lv l) (hll:l.length<=900) (hLv:S13.Least true G.prods G.sorts.length L) (hall:∀ j,j < G.sorts.length->L.getD j false=true) :
  Calls Tryz.prog 42 #[gv,lv] w fun e w'=>∃ b,e=.returned (.bool b)/\(b=true ↔ ∃ y,LR.Der (mG G n D) [-1 - G.start] (l ++ y))/\Below w.heap.size w w':=by
 have HGr:=hid h
 have HLV:=hid (And.intro hLv hall)
 obtain ⟨tv,ov,sv,pv,tf,rv,h⟩:=h
 have HGA:=hid h
 have hgv:=h.eq
 subst hgv
 obtain ⟨so,sc,rfl,_,_⟩:=h.sorts
 obtain ⟨po,pc,rfl,_,hpx⟩:=h.prods
 obtain ⟨lo,lc,rfl,_,hlx⟩:=id hl.1
 have HPX:=hid hpx
 have HLX:=hid hlx
 have HRT:=hid h.rights
 have HCAP:=hid h.caps
 have HLI:=hid hl
 have HV:=hid hV
 have HPB:=hid (show ∀ p,p < G.prods.length->0<=(G.prods.getD p default).sort/\(G.prods.getD p default).sort < G.sorts.length/\(G.prods.getD p default).rs.length<=12/\∀ s ∈ (G.prods.getD p default).rs,s < 0->(-1 - s).toNat < G.sorts.length from fun p hp=>by
  have h1:=S13.prodB_sortNat (S13.valid_prod hV hp)
  refine ⟨h1.1,h1.2.1,h1.2.2.1,fun s hs h0=>?_⟩
  rcases h1.2.2.2 s hs with h2 | h2 <;> omega)
 have hst:=valid_start hV
 obtain ⟨N,hN0⟩:=nmQ (l.length)
 obtain ⟨S,hS⟩:=nmQ (G.sorts.length)
 obtain ⟨NP,hNP⟩:=nmQ (G.prods.length)
 obtain ⟨A,hA⟩:∃ A:Nat,G.start=(A:Int):=⟨G.start.toNat,by omega⟩
 obtain ⟨M,hM⟩:=nmQ (N + 1)
 have HN:=hid (show l.length=N/\G.sorts.length=S/\G.prods.length=NP/\G.start.toNat=A/\N + 1=M/\N<=900/\S<=60/\NP<=120/\A < S/\G.start=(A:Int) from ⟨hN0,hS,hNP,by omega,hM,by omega,by omega,by omega,by omega,hA⟩)
 have n60:N<=900:=by omega
 rw [hNP] at HPX HRT HCAP HPB HGr HGA
 rw [hS] at HPB HLV HGr HGA
 rw [hN0] at HLI HLX
 rw [hA] at HGr HGA
 rw [hS,hNP,hN0,hA]
 obtain ⟨W1,e1⟩:=nmQ (w.alloc (.cells #[tv,ov,.slice so S sc,.slice po NP pc,.int .i64 (A:Int)] 27 (0,0)))
 have n1:W1.heap[w.heap.size]?=some (.cells #[tv,ov,.slice so S sc,.slice po NP pc,.int .i64 (A:Int)] 27 (0,0)):=nbQ e1
 have hb1:Below w.heap.size w W1:=baQ e1
 have HB1:=hid hb1
 have HN1:=hid n1
 obtain ⟨c0,c1,c2,c3,c4⟩:=cells5 n1
 have KV:=hid (RValid_any (HGA.out.mono HB1.out))
 rw [HV.out] at KV
 clear h hV hl hll hN0 hS hNP hA hM hst n1 hb1 hpx hlx hLv hall
 go_enter Tryz.func42,Tryz.ntmps42
 go_wp2_with fail
 refine KV.out.mono ?_
 rintro e w2 ⟨rfl,hb2⟩
 have HB2:=hid (HB1.out.trans (hb2.mono HB1.out.size))
 have HN2:=hid ((hb2.block _ (ltQ HN1.out)).trans HN1.out)
 clear c0 c1 c2 c3 c4 KV hb2 e1
 obtain ⟨c0,c1,c2,c3,c4⟩:=cells5 HN2.out
 have KS:=hid (Span_any (n:=n) (D:=D) (M:=M) (HGr.out.below HB2.out) HV.out (HLI.out.mono HB2.out) (by have:=HN.out; omega) (by have:=HN.out; omega))
 go_wp2_with fail
 refine KS.out.mono ?_
 rintro e w3 ⟨dv,C,rfl,hcan,hte,hce,hb3⟩
 have HTE:=hid (And.intro hte hce)
 rw [HN.out.2.1] at hcan
 obtain ⟨dvo,dvc,rfl,_⟩:=hcan.len
 have HCAN:=hid hcan
 have HB3:=hid (HB2.out.trans (hb3.mono HB2.out.size))
 have HN3:=hid ((hb3.block _ (ltQ HN2.out)).trans HN2.out)
 clear c0 c1 c2 c3 c4 KS hb3 hcan hte hce
 obtain ⟨c0,c1,c2,c3,c4⟩:=cells5 HN3.out
 have KL:=hid (S13.RLives_any (HGA.out.mono HB3.out) HV.out)
 rw [HN.out.2.1] at KL
 go_wp2_with fail
 refine KL.out.mono ?_
 rintro e w4 ⟨lb,L',rfl,hL',hLh,hlb,hb4⟩
 obtain rfl:=hL'.same HLV.out.1
 have HLC:=hid (show ∀ s,s < S->w4.cell? ⟨lb,s,none⟩=some (.bool true) from fun s hs=>by
  have h1:=S13.cell_bools hLh (i:=s) (by rw [HLV.out.1.length]; exact hs)
  rw [HLV.out.2 s hs] at h1
  exact h1)
 have HB4:=hid (HB3.out.trans (hb4.mono HB3.out.size))
 have HN4:=hid ((hb4.block _ (ltQ HN3.out)).trans HN3.out)
 have HGL:=hid (ltQ HN4.out)
 have HCAN4:=hid (show CanAt w4 (.slice dvo S dvc) S M C from can_below HCAN.out hb4)
 clear c0 c1 c2 c3 c4 KL hb4 hL' hLh hlb HCAN
 obtain ⟨W,hW⟩:=nmQ (w4)
 subst hW
 have f1:=(Foot.empty w4 w4.heap.size (Nat.le_refl _)).add noneI (Below.refl _ _) trivial (fun c hc=>by
  have:c ∈ ([]:List Nat):=hc
  cases this)
 have f2:=f1.add (leavesI M (fun k=>k == N) []) (Below.refl _ _) (fun b hb=>by cases hb) (fun c hc=>by
  have:c ∈ ([]:List Nat):=hc
  cases this)
 have f3:Foot w4.heap.size w4 w4 [noneI,leavesI M (fun k=>k == N) [],queI w4.heap.size 1 (.slice none 0 0) 0 []]:=foot_newrow f2
 have HF0:=hid f3
 clear f1 f2 f3
 go_wp2_with fail
 go_loopw [9,10] (fun t9 t10 wr=>∃ (s:Nat) (bv:Value) (L1:List Nat),s<=S/\bv=t9/\t10=.int .i64 (s:Int)/\Hid (L1.length=s/\L1.Nodup)/\Hid (Foot w4.heap.size w4 wr [noneI,leavesI M (fun k=>k == N) L1,queI w4.heap.size 1 bv s (L1.map (sl M))])) (fun _ t10 _=>S - (RowKit.intOf t10).toNat)
 case atStart=>exact ⟨0,_,[],Nat.zero_le _,rfl,rfl,hid ⟨rfl,List.nodup_nil⟩,HF0⟩
 case round =>
  clear HF0
  obtain ⟨s,bv,L1,hsS,rfl,rfl,HR,HF⟩:=hrel
  have nG:=(HF.out.bel.block _ (ltQ HN4.out)).trans HN4.out
  have c2:=coQ nG 2
  clear nG
  obtain ⟨bo,bc,rfl⟩:=(show ownsT wr w4.heap.size 1 bv s _ from HF.out.ok 2 _ rfl).shape
  by_cases hlt:s < S
  ·have j1:(s:Int) < (S:Int):=by omega
   have j0:(0:Int)<=(s:Int):=by omega
   have hw:IntKind.i64.wrap ((N:Int) + 1)=(M:Int):=by have:=HN.out; rw [wrap_small (by omega) (by omega)]; omega
   have hmk:=S13.made_bools M (by have:=HN.out; omega) wr
   obtain ⟨wa,ea⟩:=nmQ (wr.alloc (.cells (Array.replicate M (.bool false)) 4))
   obtain ⟨bN,hbN⟩:=nmQ (wr.heap.size)
   have na:wa.heap[wr.heap.size]?=some (bO M fun _=>false):=by rw [<-ea,<-bO_made]; exact new_block _ _
   have ea':wr.alloc (bO M fun _=>false)=wa:=by rw [<-bO_made]; exact ea
   have fa:=foot_add1 HF.out ea' na
   rw [hbN] at fa
   have HFa:=hid (show Foot w4.heap.size w4 wa [noneI,leavesI M (fun k=>k == N) L1,queI w4.heap.size 1 (.slice bo s bc) s (L1.map (sl M)),blkI bN (bO M fun _=>false)] from fa)
   have HS12:=hid (show s<=1000000000000 from by have:=HN.out; omega)
   rw [ea,hbN] at hmk
   clear fa na ea' HF
   obtain ⟨wz,ez⟩:=nmQ (wa.alloc (.cells #[.slice (some ⟨bN,0,none⟩) M M] 75))
   have nqwz:wz.heap[wa.heap.size]?=some (.cells #[.slice (some ⟨bN,0,none⟩) M M] 75 (0,0)):=nbQ ez
   have HFqwz:=hid (HFa.out.below (show Below wa.heap.size wa wz by exact baQ ez))
   have HCQwz:=hid (show ∀ jq u,([.slice (some ⟨bN,0,none⟩) M M]:List Value)[jq]?=some u->wz.cell? ⟨wa.heap.size,jq,none⟩=some u from fun jq u hi=>by
    rw [coQ nqwz,<-hi,<-List.getElem?_toArray])
   have HOQwz:=hid (show ∀ q ∈ ([.slice (some ⟨bN,0,none⟩) M M]:List Value),q.oneCell'=true from fun q hq=>by rw [List.mem_singleton.1 hq]; rfl)
   have HBqwz:=hid (show w4.heap.size<=wz.heap.size from Nat.le_trans HFqwz.out.le HFqwz.out.bel.size)
   have HOWwz:=hid (show ownsT wz w4.heap.size 1 (.slice bo s bc) s (L1.map (sl M)) from HFqwz.out.ok 2 _ rfl)
   clear nqwz
   go_wp2_with (refine wpList_push_T rfl (.tmp 41) (.tmp 45) 147 75 rfl (.slice none 0 0) 1 24 Tryz.underlying147 info75 rfl (by decide) (.slice bo s bc) s (L1.map (sl M)) rfl HOWwz.out wa.heap.size rfl [.slice (some ⟨bN,0,none⟩) M M] rfl HCQwz.out HOQwz.out HS12.out HBqwz.out ?_)
   intro ao2 c8 w8 hown hg8 hat
   have h8:=HFqwz.out.push_que 2 rfl hown hg8 hat
   clear hown hg8 hat ez
   have HF8:=hid (show Foot w4.heap.size w4 w8 [noneI,leavesI M (fun k=>k == N) L1,queI w4.heap.size 1 (.slice ao2 (s + 1) c8) (s + 1) ((L1.map (sl M)) ++ [.slice (some ⟨bN,0,none⟩) M M]),blkI bN (bO M fun _=>false)] from h8)
   clear h8 hmk ea hbN hw
   have hown:=(show ownsT w8 w4.heap.size 1 (.slice ao2 (s + 1) c8) (s + 1) (L1.map (sl M) ++ [.slice (some ⟨bN,0,none⟩) M M]) from HF8.out.ok 2 _ rfl)
   obtain ⟨qb,qf,rfl,hqc⟩:=ownsT_cell hown (Nat.succ_pos s)
   have hq0:=hqc s (.slice (some ⟨bN,0,none⟩) M M) (by rw [List.getElem?_append_right (by rw [List.length_map,HR.out.1]; exact Nat.le_refl _),List.length_map,HR.out.1,Nat.sub_self]; rfl)
   have nb:w8.heap[bN]?=some (bO M fun _=>false):=HF8.out.ok 3 _ rfl
   obtain ⟨wd,ewd⟩:=nmQ (w8.drew)
   have hbd:Below w8.heap.size w8 wd:=bdQ ewd
   have HFd:=hid (HF8.out.below hbd)
   have hnm:N < M:=by have:=HN.out; omega
   have HH0:wd.cell? ⟨qb,qf + s,none⟩=some (.slice (some ⟨bN,0,none⟩) M M)/\wd.cell? ⟨lb,s,none⟩=some (.bool true):=⟨cell_below hbd hq0,cell_below HFd.out.bel (HLC.out s hlt)⟩
   have nbd:=(hbd.block _ (ltQ nb)).trans nb
   have cd:=bO_cell nbd hnm
   have fd:=foQ nbd N
   obtain ⟨v1,ev⟩:=nmQ (wd.setCell ⟨bN,N,none⟩ (.bool true))
   have hup:=HFd.out.upd 3 (x:=blkI bN (bO M fun _=>false)) rfl (blkI bN (bO M fun k=>k == N)) (w':=v1) (by rw [<-ev]; exact Touch.set wd bN N _) (by
    show v1.heap[bN]?=_
    rw [<-ev,bO_set nbd hnm true]
    exact congrArg some (bO_congr fun k _=>by by_cases hk:k=N <;> simp [hk])) (fun b hb=>by
    have hb':b=bN:=by simpa [blkI] using hb
    subst hb'
    exact ⟨.inl hb,by rw [<-ev]; have h2:=(ltQ nbd); simpa using h2⟩)
   obtain ⟨hj,hnin⟩:=foot_leafjoin (l:=[noneI,leavesI M (fun k=>k == N) L1,queI w4.heap.size 1 (.slice (some ⟨qb,qf,none⟩) (s + 1) c8) (s + 1) (L1.map (sl M) ++ [.slice (some ⟨bN,0,none⟩) M M])]) (k:=1) hup rfl
   have HF9:=hid (show Foot w4.heap.size w4 v1 [noneI,leavesI M (fun k=>k == N) (L1 ++ [bN]),queI w4.heap.size 1 (.slice (some ⟨qb,qf,none⟩) (s + 1) c8) (s + 1) ((L1 ++ [bN]).map (sl M))] from by
    rw [List.map_append]
    exact hj)
   have HR9:=hid (show (L1 ++ [bN]).length=s + 1/\(L1 ++ [bN]).Nodup from ⟨by rw [List.length_append,HR.out.1]; rfl,nodup_push HR.out.2 hnin⟩)
   have k1:(N:Int) < (M:Int):=by omega
   have k0:(0:Int)<=(N:Int):=by omega
   have k2:(s:Int) < (s:Int) + 1:=by omega
   have k3:s < s + 1:=Nat.lt_succ_self s
   have j6:(s:Int)<=60:=by have:=HN.out; omega
   clear hup hj hnin hown hqc hq0 nb hbd nbd hnm
   go_wp2_with fail
   refine region_T 10 (fun w'=>w'.cell? ⟨qb,qf + s,none⟩=some (.slice (some ⟨bN,0,none⟩) M M)/\w'.cell? ⟨lb,s,none⟩=some (.bool true)) (by kernel_rfl) (by rw [ewd]; exact HH0) (fun inv hHeld=>?_)
   rw [ewd]
   clear hHeld ewd
   iterate 10
    refine anyT_auto (v:=?_) rfl (by kernel_rfl) (fun _ _ _ h=>h) (Or.inl ⟨by rfl,?_⟩) HH0 inv (fun inv=>?_)
    rotate_left
    ·intro w hSw
     try dsimp only at hSw
     go_simp
     try with_reducible rfl
    simp only [Act.put,sjA,sj0,sjS]
   refine anyT_one (i:=10) (o:={dst:=none,op:=.store 4 (.tmp 56) (.tmp 55),type:=0,pos := "ref.go:125",after:=#[{on:=9,ground:=.data},{on:=8,ground:=.data},{on:=0,ground:=.phase},{on:=1,ground:=.phase},{on:=2,ground:=.phase},{on:=3,ground:=.phase},{on:=4,ground:=.phase},{on:=5,ground:=.phase},{on:=6,ground:=.phase},{on:=7,ground:=.phase},{on:=8,ground:=.phase}],guard:=none}) (by kernel_rfl) rfl (fun K' hK=>?_)
   go_simp
   refine hK.out _ _ (fun h=>absurd h (by decide)) ?_
   clear hK K'
   try simp only [Act.put,sjA,sj0,sjS]
   refine anyT_done (by kernel_rfl) ?_ _
   clear cd fd ev
   go_wp2_with fail
   refine ⟨⟨s + 1,_,_,by omega,rfl,rfl,HR9,HF9⟩,?_⟩
   show S - ((s:Int) + 1).toNat < S - ((s:Int)).toNat
   omega
  ·have j1:¬ (s:Int) < (S:Int):=by omega
   obtain rfl:s=S:=by omega
   obtain ⟨hst,hmem⟩:=leaf1_laid HF.out HR.out.1 HR.out.2
   obtain ⟨leaf,hleaf⟩:=nmQ ((fun s=>L1.getD s 0))
   have HLEAF:=hid (show ∀ q,q < s->w4.heap.size<=leaf q from fun q hq=>by
    rw [<-hleaf]
    exact (HF.out.lt 1 _ rfl _ (hmem q hq)).1)
   rw [hleaf] at hst
   have HBO:=hid (show BgOut w4 wr (.slice bo s bc) s M leaf (TlB G n D l s) (LR.ClosedB (mG G n D) l C) (fun q k=>decide (q < s) && (k == N)) true from ⟨HF.out.bel,hst.congr (B':=fun q k=>decide (q < s) && (k == N)) (fun q k hq _=>by rw [decide_eq_true hq]; rfl),by
    have h1:=tlB_start (n:=n) (D:=D) (l:=l) HV.out (by rw [HN.out.2.1]; exact HLV.out.1) (by rw [HN.out.2.1]; exact HLV.out.2) (B:=fun q k=>decide (q < s) && (k == N)) (fun q k h=>by
     rw [Bool.and_eq_true,decide_eq_true_iff,beq_iff_eq] at h
     rw [HN.out.1,HN.out.2.1]
     exact ⟨h.2,h.1⟩) (fun q hq=>by
     rw [HN.out.2.1] at hq
     rw [HN.out.1,decide_eq_true hq]
     simp)
    rw [HN.out.2.1] at h1
    exact h1,fun e=>by cases e⟩)
   clear hst hmem hleaf HF HR
   go_wp2_with fail
   clear c2
   go_loopw [11] (fun t11 wr=>∃ (c:Bool) (B:Nat->Nat->Bool),t11=.bool c/\Hid (BgOut w4 wr (.slice bo s bc) s M leaf (TlB G n D l s) (LR.ClosedB (mG G n D) l C) B c)) (fun t11 wr=>2 * cnt2 s M (readB wr leaf) + (match t11 with | .bool true=>1 | _=>0))
   case atStart=>exact ⟨true,_,rfl,HBO⟩
   case round =>
    clear HBO
    obtain ⟨c,B0,rfl,HO⟩:=hrel
    cases c
    ·have nG:=(HO.out.bel.block _ HGL.out).trans HN4.out
     have c4:=coQ nG 4
     obtain ⟨b1,o1,u1,rfl,x0,rfl⟩:=HO.out.st.rows.at_ HN.out.2.2.2.2.2.2.2.2.1
     have cL:=bO_cell (HO.out.st.at_ A HN.out.2.2.2.2.2.2.2.2.1) (show 0 < M by have:=HN.out; omega)
     obtain ⟨cb,hcb⟩:=nmQ (B0 A 0)
     have HCB:=hid hcb
     rw [hcb] at cL
     have y0:(0:Int)<=(A:Int):=by omega
     have y1:(A:Int) < (s:Int):=by have:=HN.out; omega
     have y2:(0:Int) < (M:Int):=by have:=HN.out; omega
     have y6:0 < M:=by have:=HN.out; omega
     have x1:wr.cell? ⟨b1,o1 + A,none⟩=some (.slice (some ⟨leaf A,0,none⟩) M M):=x0
     clear nG hcb x0
     go_wp2_with fail
     go_ret
     refine ⟨cb,rfl,?_,HB4.out.trans (HO.out.bel.mono HB4.out.size)⟩
     have h1:=begs_end (n:=n) (D:=D) HV.out (by rw [HN.out.2.1]; exact HLV.out.1) (by rw [HN.out.2.1]; exact HLV.out.2) HTE.out.1 HTE.out.2 (by rw [HN.out.2.1]; exact HO.out.tells) (HO.out.done rfl)
     rw [HN.out.2.2.2.1,HCB.out,HN.out.2.2.2.2.2.2.2.2.2] at h1
     exact h1
    obtain ⟨K0,hK0⟩:=nmQ (cnt2 s M (readB wr leaf))
    have HK:=hid hK0
    have HK0:=hid (show cnt2 s M B0=K0 from HO.out.st.read.symm.trans hK0)
    have HI0:=hid (show BgInv w4 wr (.slice bo s bc) s M leaf (TlB G n D l s) B0 B0 false (zB G l M C B0 0 0) from ⟨HO.out.bel,HO.out.st,HO.out.tells,fun _=>⟨rfl,zB.zero⟩,fun e=>by cases e⟩)
    clear hK0
    go_wp2_with fail
    go_loopw [11,12] (fun t11 t12 wr=>∃ (c:Bool) (B:Nat->Nat->Bool) (p:Nat),p<=NP/\t11=.bool c/\t12=.int .i64 (p:Int)/\Hid (BgInv w4 wr (.slice bo s bc) s M leaf (TlB G n D l s) B0 B c (zB G l M C B0 p 0))) (fun _ t12 _=>NP - (RowKit.intOf t12).toNat)
    case atStart=>exact ⟨false,B0,0,Nat.zero_le _,rfl,rfl,HI0⟩
    case round =>
     clear HI0
     obtain ⟨c,B,p,hp,rfl,rfl,HI⟩:=hrel
     have HBW:=hid (show Below w.heap.size w wr from HB4.out.trans (HI.out.bel.mono HB4.out.size))
     have c3:=coQ ((HI.out.bel.block _ HGL.out).trans HN4.out) 3
     by_cases hlp:p < NP
     ·have j1:(p:Int) < (NP:Int):=by omega
      have j0:(0:Int)<=(p:Int):=by omega
      have j6:(p:Int)<=120:=by have:=HN.out; omega
      obtain ⟨pb,pf,rfl,hpx⟩:=HPX.out (by omega)
      obtain ⟨_,hpc1,hpc2,_⟩:=hpx p hlp
      obtain ⟨hA0,hAS,hrl,hrs⟩:=HPB.out p hlp
      obtain ⟨Q,hQ⟩:=nmQ (G.prods.getD p default)
      have HQ:=hid hQ
      have HRI:=hid (show IntsAt w (rv p) Q.rs from hQ ▸ HRT.out p hlp)
      rw [hQ] at hpc1 hA0 hAS hrl hrs
      obtain ⟨F,hF⟩:=nmQ (Q.sort.toNat)
      have HFQ:=hid hF
      have hpc1:w.cell? ⟨pb,pf + p * 4 + 1,none⟩=some (.int .i64 (F:Int)):=by
       rw [hpc1,show Q.sort=(F:Int) by omega]
      obtain ⟨ro,rc,hrv,_,hrx⟩:=HRI.out.1
      obtain ⟨RL,hRL⟩:=nmQ (Q.rs.length)
      rw [hRL] at hrv hrx hrl
      rw [hrv] at hpc2 HRI
      have HRX:=hid hrx
      have HRL:=hid (show Q.rs.length=RL/\RL<=12/\RL<=rc from ⟨hRL,hrl,HCAP.out p hlp ro RL rc hrv⟩)
      have HC1:=hid hpc1
      have HC2:=hid hpc2
      have HRS:=hid hrs
      have HFS:=hid (show F < s from by omega)
      have cR:=cell_below HBW.out hpc2
      clear hpc1 hpc2 hF hQ hA0 hAS hrl hrs hpx hRL hrv hrx
      go_wp2_with fail
      clear c3 cR
      go_loopw [11,14] (fun t11 t14 wr=>∃ (c:Bool) (B:Nat->Nat->Bool) (i:Nat),i<=M/\t11=.bool c/\t14=.int .i64 (i:Int)/\Hid (BgInv w4 wr (.slice bo s bc) s M leaf (TlB G n D l s) B0 B c (zB G l M C B0 p i))) (fun _ t14 _=>M - (RowKit.intOf t14).toNat)
      case atStart=>exact ⟨c,B,0,Nat.zero_le _,rfl,rfl,HI⟩
      case round =>
       clear HI HBW
       obtain ⟨c,B,i,hi,rfl,rfl,HI⟩:=hrel
       by_cases hli:i < M
       ·have k1:(i:Int)<=(N:Int):=by have:=HN.out; omega
        have k0:(0:Int)<=(i:Int):=by omega
        go_wp2_with fail
        go_loopw [15,16] (fun t15 t16 wr=>∃ (k:Nat) (isv:Bool),k<=RL/\t16=.int .i64 (k:Int)/\t15=.bool isv/\Hid (isv=LR.begK l C B Q.rs i k)/\Hid (BgInv w4 wr (.slice bo s bc) s M leaf (TlB G n D l s) B0 B c (zB G l M C B0 p i))) (fun _ t16 _=>RL - (RowKit.intOf t16).toNat)
        case atStart=>exact ⟨0,false,Nat.zero_le _,rfl,rfl,hid rfl,HI⟩
        case round =>
         clear HI
         obtain ⟨k,isv,hk,rfl,rfl,HIS,HI⟩:=hrel
         by_cases hlk:k < RL
         ·have m1:(k:Int) < (RL:Int):=by omega
          have m0:(0:Int)<=(k:Int):=by omega
          have m2:(k:Int)<=(rc:Int):=by have:=HRL.out; omega
          have m3:(k:Int)<=12:=by have:=HRL.out; omega
          obtain ⟨rb,rf,rfl,hrc⟩:=HRX.out (by omega)
          have HRC:=hid hrc
          clear hrc
          go_wp2_with fail
          go_loop [17,18] (fun t17 t18=>∃ q:Nat,k + 1<=q/\q<=RL/\t18=.int .i64 (q:Int)/\t17=.bool true) (fun _ t18=>RL - (RowKit.intOf t18).toNat)
          case atStart=>exact ⟨k + 1,Nat.le_refl _,by omega,by go_num,rfl⟩
          case round =>
           obtain ⟨q,hkq,hq,rfl,rfl⟩:=hrel
           by_cases hlq:q < RL
           ·have q1:(q:Int) < (RL:Int):=by omega
            have q0:(0:Int)<=(q:Int):=by omega
            have q3:(q:Int)<=12:=by have:=HRL.out; omega
            have HBW:=hid (show Below w.heap.size w wr from HB4.out.trans (HI.out.bel.mono HB4.out.size))
            obtain ⟨z,hz⟩:=nmQ (Q.rs.getD q 0)
            have hzm:z ∈ Q.rs:=by
             rw [<-hz,gdQ,geQ (by rw [HRL.out.1]; exact hlq)]
             exact List.getElem_mem _
            have cq:w.cell? ⟨rb,rf + q,none⟩=some (.int .i64 z):=hz ▸ HRC.out q hlq
            have cq2:=cell_below HBW.out cq
            have hzb:=HRI.out.2 z hzm
            have hzs:=HRS.out z hzm
            by_cases hz0:0<=z
            ·have g0:decide (0<=z)=true:=decide_eq_true hz0
             clear cq hz hzm hzb hzs
             go_wp2_with fail
             refine ⟨⟨q + 1,by omega,by omega,by go_num,rfl⟩,?_⟩
             simp [RowKit.intOf]
             omega
            ·have g0:decide (0<=z)=false:=decide_eq_false hz0
             obtain ⟨F2,hF2⟩:∃ F2:Nat,(-1 - z).toNat=F2:=⟨_,rfl⟩
             have hF3:=hzs (by omega)
             rw [hF2] at hF3
             have hw2:IntKind.i64.wrap (-1 - z)=(F2:Int):=by rw [wrap_small (by omega) (by omega)]; omega
             have y3:(0:Int)<=(F2:Int):=by omega
             have y4:(F2:Int) < (s:Int):=by omega
             have cv:=cell_below HI.out.bel (HLC.out F2 hF3)
             clear cq hz hzm hzb hzs hF2 hF3
             go_wp2_with fail
             refine ⟨⟨q + 1,by omega,by omega,by go_num,rfl⟩,?_⟩
             simp [RowKit.intOf]
             omega
           ·as_aux_lemma =>
             have q1:¬ (q:Int) < (RL:Int):=by omega
             obtain rfl:RL=q:=by omega
             obtain ⟨wd,ewd⟩:=nmQ (wr.drew)
             have hbd:Below wr.heap.size wr wd:=bdQ ewd
             have HId:=hid (HI.out.below hbd)
             have HBd:=hid (show Below w.heap.size w wd from HB4.out.trans (HId.out.bel.mono HB4.out.size))
             have HS:=hid (show ∀ w',Below wd.heap.size wd w'->w'.cell? ⟨w.heap.size,0,none⟩=some (tv)/\w'.cell? ⟨w.heap.size,1,none⟩=some (ov)/\w'.cell? ⟨w.heap.size,2,none⟩=some (.slice so s sc)/\w'.cell? ⟨w.heap.size,3,none⟩=some (.slice (some ⟨pb,pf,none⟩) NP pc)/\w'.cell? ⟨w.heap.size,4,none⟩=some (.int .i64 (A:Int)) from fun w' hC=>by
              have nG:=((HId.out.below hC).bel.block _ HGL.out).trans HN4.out
              exact cells5 nG)
             have HH0:=HS.out wd (Below.refl _ _)
             have hk1:CanAt wd (.slice dvo s dvc) s M C:=can_below HCAN4.out HId.out.bel
             have hk2:IntsAt wd (.slice lo N lc) l:=HLI.out.mono HBd.out
             have hk3:IntsAt wd (.slice (some ⟨rb,rf,none⟩) k rc) (Q.rs.take k):=ints_take (HRI.out.mono HBd.out) (by rw [HRL.out.1]; omega)
             have hk4:∀ x ∈ Q.rs.take k,x < 0->(-1 - x).toNat < s:=fun x hx=>HRS.out x (List.mem_of_mem_take hx)
             have hk5:(Q.rs.take k).length<=1000:=by
              have h1:=List.length_take_le k Q.rs
              have h2:=HRL.out.2.1
              omega
             have hk6:l.length + 1=M:=by rw [HN.out.1]; exact HN.out.2.2.2.2.1
             have hk7:M<=1000:=by have:=HN.out; omega
             have HLE:=hid (@Ends_any wd tv ov (.slice so s sc) (.slice (some ⟨pb,pf,none⟩) NP pc) (A:Int) (.slice dvo s dvc) (.slice lo N lc) (.slice (some ⟨rb,rf,none⟩) k rc) l (Q.rs.take k) s M C hk1 hk2 hk6 hk7 hk3 hk4 hk5 i hli)
             clear hbd HI hk1 hk2 hk3 hk4 hk5 hk6 hk7
             go_wp2_with fail
             refine region_T 8 (fun w'=>w'.cell? ⟨w.heap.size,0,none⟩=some (tv)/\w'.cell? ⟨w.heap.size,1,none⟩=some (ov)/\w'.cell? ⟨w.heap.size,2,none⟩=some (.slice so s sc)/\w'.cell? ⟨w.heap.size,3,none⟩=some (.slice (some ⟨pb,pf,none⟩) NP pc)/\w'.cell? ⟨w.heap.size,4,none⟩=some (.int .i64 (A:Int))) (by kernel_rfl) (by rw [ewd]; exact HH0) (fun inv hHeld=>?_)
             rw [ewd]
             clear hHeld ewd
             iterate 5
              refine anyT_auto (v:=?_) rfl (by kernel_rfl) (fun _ _ _ h=>h) (Or.inl ⟨by rfl,?_⟩) HH0 inv (fun inv=>?_)
              rotate_left
              ·intro w hSw
               try dsimp only at hSw
               go_simp
               try with_reducible rfl
              simp only [Act.put,sjA,sj0,sjS]
             refine anyT_take (i:=5) (oi:={dst:=some 113,op:=.slice 64 (.tmp 111) none (some (.tmp 112)) none,type:=64,pos := "ref.go:139",after:=#[{on:=3,ground:=.data},{on:=4,ground:=.data}],guard:=none}) (v:=?_) rfl (by kernel_rfl) (by kernel_rfl) (by kernel_rfl) (by decide) (by decide) (by kernel_rfl) (by kernel_rfl) (fun _ _ _ h=>h) (Or.inl ⟨by rfl,?_⟩) HH0 inv (fun inv=>?_)
             rotate_left
             ·intro w hSw
              try dsimp only at hSw
              go_simp
              try with_reducible rfl
             simp only [Act.put,sjA,sj0,sjS]
             iterate 1
              refine anyT_auto (v:=?_) rfl (by kernel_rfl) (fun _ _ _ h=>h) (Or.inl ⟨by rfl,?_⟩) HH0 inv (fun inv=>?_)
              rotate_left
              ·intro w hSw
               try dsimp only at hSw
               go_simp
               try with_reducible rfl
              simp only [Act.put,sjA,sj0,sjS]
             refine anyT_next (i:=7) (o:={dst:=some 115,op:=.call {callee:=.value (.func 85),args:=#[.tmp 108,.tmp 109,.tmp 110,.tmp 113,.tmp 114],argTypes:=#[27,148,43,64,3]},type:=75,pos := "ref.go:139",after:=#[{on:=0,ground:=.data},{on:=1,ground:=.data},{on:=2,ground:=.data},{on:=5,ground:=.data},{on:=6,ground:=.data}],guard:=none}) (by kernel_rfl) rfl (by decide) inv (fun inv K' hK=>?_)
             go_simp
             refine HLE.out.mono ?_
             rintro e w5 ⟨be,rfl,hbe,hbo,hb5⟩
             have HB5:=hid hb5
             have HBO:=hid hbo
             have HH1:=HS.out w5 hb5
             clear hb5 hbe hbo
             refine hK.out _ _ HH1 ?_
             clear hK K' HH0
             try simp only [Act.put,sjA,sj0,sjS]
             refine anyT_one (i:=8) (o:={dst:=some 19,op:=.assign (.tmp 115),type:=75,pos := "ref.go:139",after:=#[{on:=7,ground:=.data},{on:=7,ground:=.chain},{on:=0,ground:=.phase},{on:=1,ground:=.phase},{on:=2,ground:=.phase},{on:=3,ground:=.phase},{on:=4,ground:=.phase},{on:=5,ground:=.phase},{on:=6,ground:=.phase},{on:=7,ground:=.phase}],guard:=none}) (by kernel_rfl) rfl (fun K' hK=>?_)
             go_simp
             refine hK.out _ _ (fun h=>absurd h (by decide)) ?_
             clear hK K'
             try simp only [Act.put,sjA,sj0,sjS]
             refine anyT_done (by kernel_rfl) ?_ _
             clear HS HH1
             have HI5:=hid (HId.out.below HB5.out)
             obtain ⟨E,hE⟩:=nmQ (LR.endsE l C (Q.rs.take k) (fun j=>j == i))
             have HEE:=hid hE
             rw [hE] at HBO
             clear HId hE
             obtain ⟨z,hz⟩:=nmQ (Q.rs.getD k 0)
             have hzm:z ∈ Q.rs:=by
              rw [<-hz,gdQ,geQ (by rw [HRL.out.1]; exact hlk)]
              exact List.getElem_mem _
             have HZ:=hid hz
             have HZC:=hid (show w.cell? ⟨rb,rf + k,none⟩=some (.int .i64 z) from hz ▸ HRC.out k hlk)
             have HZB:=hid (And.intro (HRI.out.2 z hzm) (HRS.out z hzm))
             clear hz hzm
             go_wp2_with fail
             go_loopw [15,20] (fun t15 t20 wr=>∃ (e:Nat) (pv:Bool),i<=e/\e<=M/\t20=.int .i64 (e:Int)/\t15=.bool pv/\Hid (pv=(isv || LR.begAt l C B Q.rs i k e))/\Hid (BgInv w4 wr (.slice bo s bc) s M leaf (TlB G n D l s) B0 B c (zB G l M C B0 p i))/\Hid (wr.heap[be]?=some (bO M E))) (fun _ t20 _=>M - (RowKit.intOf t20).toNat)
             case atStart=>exact ⟨i,isv,Nat.le_refl _,hi,rfl,rfl,hid (by rw [begAt_start,Bool.or_false]),HI5,HBO⟩
             case round =>
              clear HI5 HBO
              obtain ⟨e,pv,hie,he,rfl,rfl,HPV,HI,HE⟩:=hrel
              by_cases hle:e < M
              ·have y1:(e:Int)<=(N:Int):=by have:=HN.out; omega
               have y0:(0:Int)<=(e:Int):=by omega
               have y2:(e:Int) < (M:Int):=by omega
               have HBW:=hid (show Below w.heap.size w wr from HB4.out.trans (HI.out.bel.mono HB4.out.size))
               have Z0:=hid (show ∀ w',Below wr.heap.size wr w'->w'.cell? ⟨rb,rf + k,none⟩=some (.int .i64 z) from fun w' hC=>cell_below (HBW.out.trans (hC.mono HBW.out.size)) HZC.out)
               obtain ⟨eb,heb⟩:=nmQ (E e)
               have HEB:=hid heb
               clear heb
               by_cases hz0:0<=z
               ·have g0:decide (0<=z)=true:=decide_eq_true hz0
                have g1:decide (z < 0)=false:=decide_eq_false (by omega)
                have g2:¬ z < 0:=by omega
                have HZ0:=hid hz0
                by_cases heN:e=N
                ·have z1:((e:Int) == (N:Int))=true:=by rw [heN]; simp
                 have HOB:=hid (show LR.oneE l B z e=true from by
                  unfold LR.oneE
                  rw [if_pos HZ0.out,HN.out.1,heN]
                  simp)
                 have HNL:=hid heN
                 clear heN
                 go_wp2_with fail
                 as_aux_lemma =>
                  refine wp_region_below (by kernel_rfl) (by kernel_rfl) ?_
                  iterate 48
                   first
                   | with_reducible refine BigFrame.wpQuiet_skip (by with_unfolding_all rfl) ?_
                   | with_reducible refine BigFrame.wpQuiet_want (by kernel_rfl) (fun K hK=>?_)
                     apply Exists.intro
                     refine ⟨fun w' hC=>?_,hK _ ?_⟩
                     ·have f0':=Z0.out w' hC
                      unfold Oper.quietAt
                      go_simp
                      first | with_reducible rfl | done
                     clear hK K
                   try simp only [Act.put,sjA,sj0,sjS]
                  refine wpQuiet_nil ?_
                  intro w6 hb6
                  have HI6:=hid (HI.out.below hb6)
                  have HE6:=hid ((hb6.block _ (ltQ HE.out)).trans HE.out)
                  have cE:=bO_cell HE6.out hle
                  rw [HEB.out] at cE
                  have HNX:=hid (pv_next HPV.out hie (show LR.endsE l C (Q.rs.take k) (fun m=>m == i) e=eb from by rw [HEE.out]; exact HEB.out) (show LR.oneE l B (Q.rs.getD k 0) e=true from by rw [HZ.out]; exact HOB.out))
                  clear hb6 HI HE
                  cases pv
                  ·cases eb
                   ·go_wp2_with fail
                    refine ⟨⟨e + 1,false,by omega,by omega,by go_num,rfl,HNX,HI6,HE6⟩,?_⟩
                    simp [RowKit.intOf]
                    omega
                   ·go_wp2_with fail
                    refine ⟨⟨e + 1,true,by omega,by omega,by go_num,rfl,HNX,HI6,HE6⟩,?_⟩
                    simp [RowKit.intOf]
                    omega
                  ·go_wp2_with fail
                   refine ⟨⟨e + 1,true,by omega,by omega,by go_num,rfl,HNX,HI6,HE6⟩,?_⟩
                   simp [RowKit.intOf]
                   omega
                ·have z1:((e:Int) == (N:Int))=false:=by rw [beq_eq_false_iff_ne]; omega
                 obtain ⟨Nm,hNm⟩:∃ Nm:Int,(N:Int) - 1=Nm:=⟨_,rfl⟩
                 have hw2:IntKind.i64.wrap ((N:Int) - 1)=Nm:=by rw [wrap_small (by omega) (by omega)]; exact hNm
                 by_cases heM:e + 1=N
                 ·have z2:((e:Int) == Nm)=true:=by rw [beq_iff_eq]; omega
                  have heL:e < l.length:=by rw [HN.out.1]; omega
                  have y5:(e:Int) < (N:Int):=by omega
                  obtain ⟨lb',lf,rfl,hlc⟩:=HLX.out (by omega)
                  obtain ⟨t,ht⟩:∃ t,l[e]?=some t:=⟨_,geQ heL⟩
                  have hlc:w.cell? ⟨lb',lf + e,none⟩=some (.int .i64 t):=by
                   have:=hlc e (by omega)
                   rw [gdQ,ht] at this
                   exact this
                  have Z1:=hid (show ∀ w',Below wr.heap.size wr w'->w'.cell? ⟨lb',lf + e,none⟩=some (.int .i64 t) from fun w' hC=>cell_below (HBW.out.trans (hC.mono HBW.out.size)) hlc)
                  have HOB0:=hid (show LR.oneE l B z e=decide (t=z) from by
                   unfold LR.oneE
                   rw [if_pos HZ0.out,HN.out.1,ht,decide_eq_true heM,show (e == N)=false from by rw [beq_eq_false_iff_ne]; exact heN,Bool.false_or,Bool.true_and]
                   by_cases h:t=z <;> simp [h])
                  clear hlc hNm heL heN heM ht
                  by_cases htz:t=z
                  ·have HOB:=hid (show LR.oneE l B z e=true from by rw [HOB0.out,decide_eq_true htz])
                   have z3:(t == z)=true:=by rw [beq_iff_eq]; exact htz
                   clear htz
                   go_wp2_with fail
                   as_aux_lemma =>
                    refine wp_region_below (by kernel_rfl) (by kernel_rfl) ?_
                    iterate 48
                     first
                     | with_reducible refine BigFrame.wpQuiet_skip (by with_unfolding_all rfl) ?_
                     | with_reducible refine BigFrame.wpQuiet_want (by kernel_rfl) (fun K hK=>?_)
                       apply Exists.intro
                       refine ⟨fun w' hC=>?_,hK _ ?_⟩
                       ·have f0':=Z0.out w' hC
                        have f1':=Z1.out w' hC
                        unfold Oper.quietAt
                        go_simp
                        first | with_reducible rfl | done
                       clear hK K
                     try simp only [Act.put,sjA,sj0,sjS]
                    refine wpQuiet_nil ?_
                    intro w6 hb6
                    have HI6:=hid (HI.out.below hb6)
                    have HE6:=hid ((hb6.block _ (ltQ HE.out)).trans HE.out)
                    have cE:=bO_cell HE6.out hle
                    rw [HEB.out] at cE
                    have HNX:=hid (pv_next HPV.out hie (show LR.endsE l C (Q.rs.take k) (fun m=>m == i) e=eb from by rw [HEE.out]; exact HEB.out) (show LR.oneE l B (Q.rs.getD k 0) e=true from by rw [HZ.out]; exact HOB.out))
                    clear hb6 HI HE
                    cases pv
                    ·cases eb
                     ·go_wp2_with fail
                      refine ⟨⟨e + 1,false,by omega,by omega,by go_num,rfl,HNX,HI6,HE6⟩,?_⟩
                      simp [RowKit.intOf]
                      omega
                     ·go_wp2_with fail
                      refine ⟨⟨e + 1,true,by omega,by omega,by go_num,rfl,HNX,HI6,HE6⟩,?_⟩
                      simp [RowKit.intOf]
                      omega
                    ·go_wp2_with fail
                     refine ⟨⟨e + 1,true,by omega,by omega,by go_num,rfl,HNX,HI6,HE6⟩,?_⟩
                     simp [RowKit.intOf]
                     omega
                  ·have HOB:=hid (show LR.oneE l B z e=false from by rw [HOB0.out,decide_eq_false htz])
                   have z3:(t == z)=false:=by rw [beq_eq_false_iff_ne]; exact htz
                   clear htz
                   go_wp2_with fail
                   as_aux_lemma =>
                    refine wp_region_below (by kernel_rfl) (by kernel_rfl) ?_
                    iterate 48
                     first
                     | with_reducible refine BigFrame.wpQuiet_skip (by with_unfolding_all rfl) ?_
                     | with_reducible refine BigFrame.wpQuiet_want (by kernel_rfl) (fun K hK=>?_)
                       apply Exists.intro
                       refine ⟨fun w' hC=>?_,hK _ ?_⟩
                       ·have f0':=Z0.out w' hC
                        have f1':=Z1.out w' hC
                        unfold Oper.quietAt
                        go_simp
                        first | with_reducible rfl | done
                       clear hK K
                     try simp only [Act.put,sjA,sj0,sjS]
                    refine wpQuiet_nil ?_
                    intro w6 hb6
                    have HI6:=hid (HI.out.below hb6)
                    have HE6:=hid ((hb6.block _ (ltQ HE.out)).trans HE.out)
                    have cE:=bO_cell HE6.out hle
                    rw [HEB.out] at cE
                    have HNX:=hid (pv_next HPV.out hie (show LR.endsE l C (Q.rs.take k) (fun m=>m == i) e=eb from by rw [HEE.out]; exact HEB.out) (show LR.oneE l B (Q.rs.getD k 0) e=false from by rw [HZ.out]; exact HOB.out))
                    clear hb6 HI HE
                    cases pv
                    ·cases eb
                     ·go_wp2_with fail
                      refine ⟨⟨e + 1,false,by omega,by omega,by go_num,rfl,HNX,HI6,HE6⟩,?_⟩
                      simp [RowKit.intOf]
                      omega
                     ·go_wp2_with fail
                      refine ⟨⟨e + 1,false,by omega,by omega,by go_num,rfl,HNX,HI6,HE6⟩,?_⟩
                      simp [RowKit.intOf]
                      omega
                    ·go_wp2_with fail
                     refine ⟨⟨e + 1,true,by omega,by omega,by go_num,rfl,HNX,HI6,HE6⟩,?_⟩
                     simp [RowKit.intOf]
                     omega
                 ·have z2:((e:Int) == Nm)=false:=by rw [beq_eq_false_iff_ne]; omega
                  have HOB:=hid (show LR.oneE l B z e=false from by
                   unfold LR.oneE
                   rw [if_pos HZ0.out,HN.out.1,decide_eq_false heM,show (e == N)=false from by rw [beq_eq_false_iff_ne]; exact heN]
                   rfl)
                  clear heN heM hNm
                  go_wp2_with fail
                  as_aux_lemma =>
                   refine wp_region_below (by kernel_rfl) (by kernel_rfl) ?_
                   iterate 48
                    first
                    | with_reducible refine BigFrame.wpQuiet_skip (by with_unfolding_all rfl) ?_
                    | with_reducible refine BigFrame.wpQuiet_want (by kernel_rfl) (fun K hK=>?_)
                      apply Exists.intro
                      refine ⟨fun w' hC=>?_,hK _ ?_⟩
                      ·have f0':=Z0.out w' hC
                       unfold Oper.quietAt
                       go_simp
                       first | with_reducible rfl | done
                      clear hK K
                    try simp only [Act.put,sjA,sj0,sjS]
                   refine wpQuiet_nil ?_
                   intro w6 hb6
                   have HI6:=hid (HI.out.below hb6)
                   have HE6:=hid ((hb6.block _ (ltQ HE.out)).trans HE.out)
                   have cE:=bO_cell HE6.out hle
                   rw [HEB.out] at cE
                   have HNX:=hid (pv_next HPV.out hie (show LR.endsE l C (Q.rs.take k) (fun m=>m == i) e=eb from by rw [HEE.out]; exact HEB.out) (show LR.oneE l B (Q.rs.getD k 0) e=false from by rw [HZ.out]; exact HOB.out))
                   clear hb6 HI HE
                   cases pv
                   ·cases eb
                    ·go_wp2_with fail
                     refine ⟨⟨e + 1,false,by omega,by omega,by go_num,rfl,HNX,HI6,HE6⟩,?_⟩
                     simp [RowKit.intOf]
                     omega
                    ·go_wp2_with fail
                     refine ⟨⟨e + 1,false,by omega,by omega,by go_num,rfl,HNX,HI6,HE6⟩,?_⟩
                     simp [RowKit.intOf]
                     omega
                   ·go_wp2_with fail
                    refine ⟨⟨e + 1,true,by omega,by omega,by go_num,rfl,HNX,HI6,HE6⟩,?_⟩
                    simp [RowKit.intOf]
                    omega
               ·have g0:decide (0<=z)=false:=decide_eq_false hz0
                have g2:z < 0:=by omega
                have g1:decide (z < 0)=true:=decide_eq_true g2
                obtain ⟨F2,hF2⟩:∃ F2:Nat,(-1 - z).toNat=F2:=⟨_,rfl⟩
                have hF3:=HZB.out.2 g2
                rw [hF2] at hF3
                have hw2:IntKind.i64.wrap (-1 - z)=(F2:Int):=by have:=HZB.out.1; rw [wrap_small (by omega) (by omega)]; omega
                have y3:(0:Int)<=(F2:Int):=by omega
                have y4:(F2:Int) < (s:Int):=by omega
                obtain ⟨b1,o1,u1,rfl,x1,rfl⟩:=HI.out.st.rows.at_ hF3
                have cL:=bO_cell (HI.out.st.at_ F2 hF3) hle
                obtain ⟨cb,hcb⟩:=nmQ (B F2 e)
                rw [hcb] at cL
                have HOB:=hid (show LR.oneE l B z e=cb from by
                 unfold LR.oneE
                 rw [if_neg hz0,hF2]
                 exact hcb)
                have Z1:=hid (show ∀ w',Below wr.heap.size wr w'->w'.cell? ⟨b1,o1 + F2,none⟩=some (.slice (some ⟨leaf F2,0,none⟩) M M) from fun w' hC=>cell_below hC x1)
                have Z2:=hid (show ∀ w',Below wr.heap.size wr w'->w'.cell? ⟨leaf F2,e,none⟩=some (.bool cb) from fun w' hC=>cell_below hC cL)
                clear x1 cL hcb hF2 hF3
                go_wp2_with fail
                as_aux_lemma =>
                 refine wp_region_below (by kernel_rfl) (by kernel_rfl) ?_
                 iterate 48
                  first
                  | with_reducible refine BigFrame.wpQuiet_skip (by with_unfolding_all rfl) ?_
                  | with_reducible refine BigFrame.wpQuiet_want (by kernel_rfl) (fun K hK=>?_)
                    apply Exists.intro
                    refine ⟨fun w' hC=>?_,hK _ ?_⟩
                    ·have f0':=Z0.out w' hC
                     have f1':=Z1.out w' hC
                     have f2':=Z2.out w' hC
                     unfold Oper.quietAt
                     go_simp
                     first | with_reducible rfl | done
                    clear hK K
                  try simp only [Act.put,sjA,sj0,sjS]
                 refine wpQuiet_nil ?_
                 intro w6 hb6
                 have HI6:=hid (HI.out.below hb6)
                 have HE6:=hid ((hb6.block _ (ltQ HE.out)).trans HE.out)
                 have cE:=bO_cell HE6.out hle
                 rw [HEB.out] at cE
                 have HNX:=hid (pv_next HPV.out hie (show LR.endsE l C (Q.rs.take k) (fun m=>m == i) e=eb from by rw [HEE.out]; exact HEB.out) (show LR.oneE l B (Q.rs.getD k 0) e=cb from by rw [HZ.out]; exact HOB.out))
                 clear hb6 HI HE
                 cases pv
                 ·cases eb
                  ·go_wp2_with fail
                   refine ⟨⟨e + 1,false,by omega,by omega,by go_num,rfl,HNX,HI6,HE6⟩,?_⟩
                   simp [RowKit.intOf]
                   omega
                  ·go_wp2_with fail
                   refine ⟨⟨e + 1,cb,by omega,by omega,by go_num,rfl,HNX,HI6,HE6⟩,?_⟩
                   simp [RowKit.intOf]
                   omega
                 ·go_wp2_with fail
                  refine ⟨⟨e + 1,true,by omega,by omega,by go_num,rfl,HNX,HI6,HE6⟩,?_⟩
                  simp [RowKit.intOf]
                  omega
              ·have y1:¬ (e:Int)<=(N:Int):=by have:=HN.out; omega
               obtain rfl:M=e:=by omega
               have HIS2:=hid (show pv=LR.begK l C B Q.rs i (k + 1) from by
                rw [begK_succ,HPV.out,HIS.out,show l.length + 1=M from by have:=HN.out; omega])
               go_wp2_with fail
               refine ⟨⟨k + 1,pv,by omega,by go_num,rfl,HIS2,HI⟩,?_⟩
               simp [RowKit.intOf]
               omega
         ·as_aux_lemma =>
           have m1:¬ (k:Int) < (RL:Int):=by omega
           obtain rfl:RL=k:=by omega
           have HIS2:=hid (show isv=LR.begK l C B Q.rs i Q.rs.length from by rw [HRL.out.1]; exact HIS.out)
           have HBW:=hid (show Below w.heap.size w wr from HB4.out.trans (HI.out.bel.mono HB4.out.size))
           have nG:=(HI.out.bel.block _ HGL.out).trans HN4.out
           cases isv
           ·have c0:=coQ nG 0
            have c1:=coQ nG 1
            have c2:=coQ nG 2
            have c3:=coQ nG 3
            have c4:=coQ nG 4
            have hk1:CanAt wr (.slice dvo s dvc) s M C:=can_below HCAN4.out HI.out.bel
            have hk2:IntsAt wr (.slice lo N lc) l:=HLI.out.mono HBW.out
            have hk3:IntsAt wr (.slice ro RL rc) Q.rs:=HRI.out.mono HBW.out
            have hk5:Q.rs.length<=1000:=by
             have h2:=HRL.out
             omega
            have hk6:l.length + 1=M:=by rw [HN.out.1]; exact HN.out.2.2.2.2.1
            have hk7:M<=1000:=by have:=HN.out; omega
            have HLE:=hid (@Ends_any wr tv ov (.slice so s sc) (.slice (some ⟨pb,pf,none⟩) NP pc) (A:Int) (.slice dvo s dvc) (.slice lo N lc) (.slice ro RL rc) l Q.rs s M C hk1 hk2 hk6 hk7 hk3 (fun x hx=>HRS.out x hx) hk5 i hli)
            clear nG hk1 hk2 hk3 hk5 hk6 hk7
            go_wp2_with fail
            refine HLE.out.mono ?_
            rintro e w5 ⟨be,rfl,hbe,hbo,hb5⟩
            have HI5:=hid (HI.out.below hb5)
            have HB5:=hid (HBW.out.trans (hb5.mono HBW.out.size))
            have hnm:N < M:=by have:=HN.out; omega
            have cE:=bO_cell hbo hnm
            obtain ⟨eb,heb⟩:=nmQ (LR.endsE l C Q.rs (fun j=>j == i) N)
            have HEB:=hid (show LR.begE l C B Q.rs i=eb from by
             unfold LR.begE
             rw [<-HIS2.out,Bool.false_or,HN.out.1]
             exact heb)
            have k2:(N:Int) < (M:Int):=by omega
            have k3:(0:Int)<=(N:Int):=by omega
            rw [heb] at cE
            have nG:=(HI5.out.bel.block _ HGL.out).trans HN4.out
            have d3:=coQ nG 3
            have d1:=cell_below HB5.out HC1.out
            clear c0 c1 c2 c3 c4 hbe hbo hb5 heb HLE nG hnm
            cases eb
            ·have HI9:=hid (show BgInv w4 w5 (.slice bo s bc) s M leaf (TlB G n D l s) B0 B c (zB G l M C B0 p (i + 1)) from HI5.out.z fun hc h=>h.one fun h1=>by
              rw [HQ.out] at h1
              rw [<-(HI5.out.same hc).1,HEB.out] at h1
              cases h1)
             go_wp2_with fail
             refine ⟨⟨c,B,i + 1,by omega,rfl,by go_num,HI9⟩,?_⟩
             simp [RowKit.intOf]
             omega
            ·as_aux_lemma =>
              obtain ⟨b1,o1,u1,rfl,x0,rfl⟩:=HI5.out.st.rows.at_ HFS.out
              have nL:=HI5.out.st.at_ F HFS.out
              have cL:=bO_cell nL hli
              obtain ⟨cb,hcb⟩:=nmQ (B F i)
              have HCB:=hid hcb
              rw [hcb] at cL
              have y3:(0:Int)<=(F:Int):=by omega
              have y4:(F:Int) < (s:Int):=by have:=HFS.out; omega
              have y5:(i:Int) < (M:Int):=by omega
              have x1:w5.cell? ⟨b1,o1 + F,none⟩=some (.slice (some ⟨leaf F,0,none⟩) M M):=x0
              clear hcb x0
              cases cb
              ·have fL:=foQ nL i
               obtain ⟨v1,e6⟩:=nmQ (w5.setCell ⟨leaf F,i,none⟩ (.bool true))
               have HI9:=hid (show BgInv w4 v1 (.slice (some ⟨b1,o1,none⟩) s bc) s M leaf (TlB G n D l s) B0 (fun s' k'=>if s'=F/\k'=i then true else B s' k') true (zB G l M C B0 p (i + 1)) from by
                rw [<-e6]
                refine HI5.out.set HLEAF.out HFS.out hli HCB.out ?_
                have h1:=tlB_set HV.out (by rw [HN.out.2.1]; exact HLV.out.1) (by rw [HN.out.2.1]; exact HLV.out.2) HTE.out.1 (p:=p) (i:=i) (by rw [HN.out.2.1]; exact HI5.out.tells) (by rw [HN.out.2.2.1]; exact hlp) (by have:=HN.out; omega) (by rw [HQ.out]; exact HEB.out)
                rw [HN.out.2.1,HQ.out,HFQ.out] at h1
                exact h1)
               clear nL
               go_wp2_with fail
               refine ⟨⟨true,_,i + 1,by omega,rfl,by go_num,HI9⟩,?_⟩
               simp [RowKit.intOf]
               omega
              ·have HI9:=hid (show BgInv w4 w5 (.slice (some ⟨b1,o1,none⟩) s bc) s M leaf (TlB G n D l s) B0 B c (zB G l M C B0 p (i + 1)) from HI5.out.z fun hc h=>h.one fun _=>by
                rw [HQ.out,HFQ.out,<-(HI5.out.same hc).1]
                exact HCB.out)
               clear nL
               go_wp2_with fail
               refine ⟨⟨c,B,i + 1,by omega,rfl,by go_num,HI9⟩,?_⟩
               simp [RowKit.intOf]
               omega
           ·have HEB:=hid (show LR.begE l C B Q.rs i=true from by
             unfold LR.begE
             rw [<-HIS2.out]
             rfl)
            have d3:=coQ nG 3
            have d1:=cell_below HBW.out HC1.out
            clear nG
            as_aux_lemma =>
             obtain ⟨b1,o1,u1,rfl,x0,rfl⟩:=HI.out.st.rows.at_ HFS.out
             have nL:=HI.out.st.at_ F HFS.out
             have cL:=bO_cell nL hli
             obtain ⟨cb,hcb⟩:=nmQ (B F i)
             have HCB:=hid hcb
             rw [hcb] at cL
             have y3:(0:Int)<=(F:Int):=by omega
             have y4:(F:Int) < (s:Int):=by have:=HFS.out; omega
             have y5:(i:Int) < (M:Int):=by omega
             have x1:wr.cell? ⟨b1,o1 + F,none⟩=some (.slice (some ⟨leaf F,0,none⟩) M M):=x0
             clear hcb x0
             cases cb
             ·have fL:=foQ nL i
              obtain ⟨v1,e6⟩:=nmQ (wr.setCell ⟨leaf F,i,none⟩ (.bool true))
              have HI9:=hid (show BgInv w4 v1 (.slice (some ⟨b1,o1,none⟩) s bc) s M leaf (TlB G n D l s) B0 (fun s' k'=>if s'=F/\k'=i then true else B s' k') true (zB G l M C B0 p (i + 1)) from by
               rw [<-e6]
               refine HI.out.set HLEAF.out HFS.out hli HCB.out ?_
               have h1:=tlB_set HV.out (by rw [HN.out.2.1]; exact HLV.out.1) (by rw [HN.out.2.1]; exact HLV.out.2) HTE.out.1 (p:=p) (i:=i) (by rw [HN.out.2.1]; exact HI.out.tells) (by rw [HN.out.2.2.1]; exact hlp) (by have:=HN.out; omega) (by rw [HQ.out]; exact HEB.out)
               rw [HN.out.2.1,HQ.out,HFQ.out] at h1
               exact h1)
              clear nL
              go_wp2_with fail
              refine ⟨⟨true,_,i + 1,by omega,rfl,by go_num,HI9⟩,?_⟩
              simp [RowKit.intOf]
              omega
             ·have HI9:=hid (show BgInv w4 wr (.slice (some ⟨b1,o1,none⟩) s bc) s M leaf (TlB G n D l s) B0 B c (zB G l M C B0 p (i + 1)) from HI.out.z fun hc h=>h.one fun _=>by
               rw [HQ.out,HFQ.out,<-(HI.out.same hc).1]
               exact HCB.out)
              clear nL
              go_wp2_with fail
              refine ⟨⟨c,B,i + 1,by omega,rfl,by go_num,HI9⟩,?_⟩
              simp [RowKit.intOf]
              omega
       ·have k1:¬ (i:Int)<=(N:Int):=by have:=HN.out; omega
        obtain rfl:M=i:=by omega
        have HI9:=hid (show BgInv w4 wr (.slice bo s bc) s M leaf (TlB G n D l s) B0 B c (zB G l M C B0 (p + 1) 0) from HI.out.z fun _ h=>h.prod)
        go_wp2_with fail
        refine ⟨⟨c,B,p + 1,by omega,rfl,by go_num,HI9⟩,?_⟩
        simp [RowKit.intOf]
        omega
     ·have j1:¬ (p:Int) < (NP:Int):=by omega
      obtain rfl:NP=p:=by omega
      have HO9:=hid (show BgOut w4 wr (.slice bo s bc) s M leaf (TlB G n D l s) (LR.ClosedB (mG G n D) l C) B c from
       ⟨HI.out.bel,HI.out.st,HI.out.tells,fun hc=>by
        obtain ⟨e,hz⟩:=HI.out.same hc
        rw [e]
        rw [<-HN.out.2.2.1] at hz
        exact hz.closed HV.out (by have:=HN.out; omega)⟩)
      have HRD:=hid (show cnt2 s M (readB wr leaf)=cnt2 s M B from HI.out.st.read)
      go_wp2_with fail
      refine ⟨⟨c,B,rfl,HO9⟩,?_⟩
      show 2 * cnt2 s M (readB _ leaf) + _ < 2 * cnt2 s M (readB _ leaf) + 1
      rw [HK.out,HRD.out]
      have hk0:=HK0.out
      cases c with
      | false =>
       rw [(HI.out.same rfl).1,hk0]
       exact Nat.lt_succ_self _
      | true =>
       have:=HI.out.less rfl
       rw [hk0] at this
       show 2 * cnt2 s M B + 1 < 2 * K0 + 1
       omega
end Go.Proofs.YticmnfmijdgmbaaGreatDoor
