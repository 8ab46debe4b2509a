/- Build. -/
import Derived.Test.YticmnfmijdgmbaaGreatDoorGa
import Derived.Laws.ResultCell
import Derived.Laws.Rows
import Derived.Test.YticmnfmijdgmbaaGreatDoorSw
set_option linter.unusedVariables false
set_option linter.unusedSimpArgs false
namespace Go.Proofs.YticmnfmijdgmbaaGreatDoor
open Go Go.RowKit Go.Lib
open X14 (It numX stepX closeX closeV iterB Built BuiltOk BuiltMany rowS symsX thereX)
open Go.Maps (Keyed)
theorem size49:(Tryz.prog.info? 55).map (·.size)=some 2:=by kernel_rfl
theorem results49 {fn:Func} (h:fn.results=#[.cell 2 55,.tmp 3]) (tmps:Array Value) (w:World) (g:Nat) (a b:Value) (n:Int)
  (hp:tmps.getD 2 undef=.pointer (some ⟨g,0,none⟩)) (hn:tmps.getD 3 undef=.int .i64 n) (hg:w.heap[g]?=some (.cells #[a,b] 55 (0,0))) :
  (results fn tmps).run Tryz.prog w=.ok (.tuple #[.agg #[a,b],.int .i64 n]) w:=by
 rw [results_cell_tmp h,hp,hn]
 simp [asAddr,Result.andThen,run_loadVar_row w g 55 55 #[a,b] (0,0) _ hg Tryz.underlying55 rfl (by rw [size49]; rfl)]
theorem bf_start {w W1 W2 w3 W4 W5 W8 W11 W13:World} {gc:Array Value} {g0 gK bA bM bN bR:Nat}
  (n1:W1.heap[w.heap.size]?=some (.cells gc 27 (0,0))) (h1:Below w.heap.size w W1)
  (eR:W1.heap.size=bR) (n2:W2.heap[bR]?=some (.cells #[.slice none 0 0,.slice none 0 0] 55 (0,0))) (h2:Below W1.heap.size W1 W2) (h3:Below W2.heap.size W2 w3)
  (e0:w3.heap.size=g0) (n4:W4.heap[g0]?=some (.cells #[.int .i64 (-1),.int .i64 0] 60 (0,0))) (h4:Below w3.heap.size w3 W4)
  (eK:W4.heap.size=gK) (n5:W5.heap[gK]?=some (.cells #[.slice (some ⟨g0,0,none⟩) 1 1] 45 (0,0))) (h5:Below W4.heap.size W4 W5)
  (eA:W5.heap.size=bA) (n8:W8.heap[bA]?=some (.cells #[.slice (some ⟨gK,0,none⟩) 1 1,.slice none 0 0] 55 (0,0))) (h8:Below W5.heap.size W5 W8)
  (eM:W8.heap.size=bM) (hm:MapIs Tryz.prog 9 W11 bM (kmap [[((-1:Int),(0:Int))]])) (h11:Below W8.heap.size W8 W11)
  (eN:W11.heap.size=bN) (n13:W13.heap[bN]?=some (.cells #[.map (some bM)] 121 (0,0))) (h13:Below W11.heap.size W11 W13) :
  BF w.heap.size w W13 bA bN bM w.heap.size bR gc (.slice (some ⟨gK,0,none⟩) 1 1) (.slice none 0 0) [(g0,1,[((-1:Int),(0:Int))])] [] [(g0,[((-1:Int),(0:Int))])] (.slice none 0 0) [] noneI:=by
 have lt:∀ {W:World} {b:Nat} {o:Obj},W.heap[b]?=some o->b < W.heap.size:=fun h=>(ltQ h)
 have one:∀ {b c:Nat},c ∈ [b]->c=b:=fun h=>by simpa using h
 have f0:=(Foot.empty w w.heap.size (Nat.le_refl _)).add (blkI w.heap.size (.cells gc 27 (0,0))) h1 n1 (fun c hc=>by rw [one hc]; exact ⟨Nat.le_refl _,lt n1⟩)
 have f1:=f0.add (blkI bR (.cells #[.slice none 0 0,.slice none 0 0] 55 (0,0))) h2 n2 (fun c hc=>by rw [one hc]; exact ⟨by omega,lt n2⟩)
 have f2:=(f1.below h3).add (frozI [(g0,[((-1:Int),(0:Int))])]) h4 (fun q hq=>by
  obtain rfl:q=(g0,[((-1:Int),(0:Int))]):=by simpa using hq
  intro i hi
  obtain rfl:i=0:=by have:i < 1:=hi; omega
  exact ⟨coQ n4 0,coQ n4 1,foQ n4 0,foQ n4 1⟩) (fun c hc=>by
  have e:c=g0:=one hc
  rw [e]; exact ⟨by omega,lt n4⟩)
 have hgK:w.heap.size<=gK:=by have:=f2.bel.size; omega
 have f3:=f2.add (rowI w.heap.size 45 (.slice (some ⟨gK,0,none⟩) 1 1) [.slice (some ⟨g0,0,none⟩) 1 1]) h5 (show World.ownsRow _ w.heap.size 45 1 (.slice (some ⟨gK,0,none⟩) 1 1) 1 [.slice (some ⟨g0,0,none⟩) 1 1] from ⟨rfl,.inr ⟨gK,1,_,rfl,hgK,n5,Nat.le_refl _,(by unfold maxLen; omega),rfl,rfl⟩⟩) (fun c hc=>by
  have e:c=gK:=by
   have:c ∈ (Value.slice (some ⟨gK,0,none⟩) 1 1).ownBlock.toList:=hc
   simpa [Value.ownBlock] using this
  rw [e]; exact ⟨by omega,lt n5⟩)
 have f4:=f3.add (blkI bA (.cells #[.slice (some ⟨gK,0,none⟩) 1 1,.slice none 0 0] 55 (0,0))) h8 n8 (fun c hc=>by rw [one hc]; exact ⟨by omega,lt n8⟩)
 have f5:=f4.add (mapI 9 bM (kmap [[((-1:Int),(0:Int))]])) h11 hm (fun c hc=>by rw [one hc]; exact ⟨by omega,hm.lt⟩)
 have f6:=f5.add (blkI bN (.cells #[.map (some bM)] 121 (0,0))) h13 n13 (fun c hc=>by rw [one hc]; exact ⟨by omega,lt n13⟩)
 have f7:=f6.add (rowI w.heap.size 43 (.slice none 0 0) []) (Below.refl _ _) (World.ownsRow_nil _ _ _ _) (fun c hc=>by
  have:c ∈ (Value.slice none 0 0).ownBlock.toList:=hc
  simp [Value.ownBlock] at this)
 have f8:=f7.add (nfI []) (Below.refl _ _) (fun q hq=>by cases hq) (fun c hc=>by cases hc)
 have f9:=f8.add (rowI w.heap.size 3 (.slice none 0 0) []) (Below.refl _ _) (World.ownsRow_nil _ _ _ _) (fun c hc=>by
  have:c ∈ (Value.slice none 0 0).ownBlock.toList:=hc
  simp [Value.ownBlock] at this)
 have f10:=f9.add noneI (Below.refl _ _) trivial (fun c hc=>by cases hc)
 refine ⟨f10.pick _ (fun i=>[4,6,5,3,7,2,8,9,0,1,10].getD i 0) (fun i x hx=>?_) (fun i j hi hj e=>?_),fun q hq=>?_⟩
 ·have hi:i < 11:=(List.getElem?_eq_some_iff.1 hx).1
  have hi2:i=0\/i=1\/i=2\/i=3\/i=4\/i=5\/i=6\/i=7\/i=8\/i=9\/i=10:=by omega
  rcases hi2 with rfl | rfl | rfl | rfl | rfl | rfl | rfl | rfl | rfl | rfl | rfl <;> exact hx
 ·have hi:i < 11:=hi
  have hj:j < 11:=hj
  have:∀ i,i < 11->∀ j,j < 11->[4,6,5,3,7,2,8,9,0,1,10].getD i 0=[4,6,5,3,7,2,8,9,0,1,10].getD j 0->i=j:=by decide
  exact this i hi j hj e
 ·obtain rfl:q=(g0,1,[((-1:Int),(0:Int))]):=by simpa using hq
  simp
theorem StI.look2 {w0 w wz:World} {f:Int->List It} {b:Nat} {M:List Ent} (h:StI w0 w f b M) (hm:MapIs Tryz.prog 61 wz b (M.map (entV f))) {s:Int} (h0:-9223372036854775808<=s) (h1:s<=9223372036854775807) (F:List (Nat × List It)) :
  ∃ v,(Instr.lookup 124 (.map (some b)) (.int .i64 s) false).run Tryz.prog wz=.ok v wz/\KerAt (F ++ rowsOf f M) v (f s):=by
 by_cases hin:s ∈ M.map (·.1)
 ·obtain ⟨p,hpM,hpe⟩:=List.mem_map.1 hin
  subst hpe
  exact ⟨rowV p (f p.1),hm.look_some1 keyed29 Tryz.underlying124 (key29 h0 h1) (h.mem hpM),.inr ⟨p.2.1,p.2.2,rfl,h.ne p hpM,List.mem_append_right _ (List.mem_map.2 ⟨p,hpM,rfl⟩)⟩⟩
 ·exact ⟨.slice none 0 0,hm.look_none1 keyed29 Tryz.underlying124 (key29 h0 h1) (zero28 _) (h.none_ hin),.inl ⟨rfl,h.all s hin⟩⟩
theorem wp_look1 {P:Program} {w:World} {o:Oper} {a:Act} {K:Act->World->Prop} {Q:Exit->Act->World->Prop} {b:Nat} (m x:Operand) (t:TypeId) (hop:o.op=Op.lookup t m x false) (hm:a.eval m=.map (some b)) (xv v:Value) (hx:a.eval x=xv)
  (hrun:(Instr.lookup t (.map (some b)) xv false).run P w=.ok v w) (hK:K (a.put o.dst v) w):o.wp P a w K Q:=by
 unfold Oper.wp
 simp [execOp,hop,hm,hx,hrun,Result.andThen]
 exact hK
theorem wpList_look_run {P:Program} {w:World} {ops:Array Oper} {rest:List Oper} {o:Oper} {a:Act} {Q:Exit->Act->World->Prop} {b:Nat} (hg:o.guard=none) (m x:Operand) (t:TypeId) (hop:o.op=Op.lookup t m x false) (hm:a.eval m=.map (some b)) (xv v:Value) (hx:a.eval x=xv)
  (hrun:(Instr.lookup t (.map (some b)) xv false).run P w=.ok v w) (hK:wpList P ops Q rest (a.put o.dst v) w):wpList P ops Q (o :: rest) a w:=by
 refine wpList_plain hg fun K' hK'=>?_
 exact wp_look1 m x t hop hm xv v hx hrun (hK' _ _ hK)
set_option maxRecDepth 100000 in
set_option maxHeartbeats 16000000 in
theorem Build_any {G:GD} {gv:Value} {w:World} {Bt:Nat} (h:Gram w gv G) (ht:Tab Bt w) (hBt:Bt<=w.heap.size) :
  Calls Tryz.prog 23 #[gv] w (BuildP G w):=by
 have HGr:=hid h
 have HT:=hid ht
 obtain ⟨tv,ov,sv,pv,tf,rv,h⟩:=h
 have hgv:=h.eq
 subst hgv
 obtain ⟨to_,tc,rfl,htn,_⟩:=h.terms
 obtain ⟨so,sc,rfl,hsn,_⟩:=h.sorts
 obtain ⟨W1,e1⟩:=nmQ (w.alloc (.cells #[.slice to_ G.terms.length tc,ov,.slice so G.sorts.length sc,pv,.int .i64 G.start] 27))
 have hb1:Below w.heap.size w W1:=baQ e1
 have n1:W1.heap[w.heap.size]?=some (.cells #[.slice to_ G.terms.length tc,ov,.slice so G.sorts.length sc,pv,.int .i64 G.start] 27 (0,0)):=nbQ e1
 obtain ⟨W2,e2⟩:=nmQ (W1.alloc (.cells #[.slice none 0 0,.slice none 0 0] 55))
 have hb2:Below W1.heap.size W1 W2:=baQ e2
 have n2:W2.heap[W1.heap.size]?=some (.cells #[.slice none 0 0,.slice none 0 0] 55 (0,0)):=nbQ e2
 have hbw:=hb1.trans (hb2.mono hb1.size)
 have n1':=(hb2.block _ (ltQ n1)).trans n1
 have b0:=coQ n1' 0
 have b1:=coQ n1' 1
 have b2:=coQ n1' 2
 have b3:=coQ n1' 3
 have b4:=coQ n1' 4
 have KV:=hid (Valid_any (h.mono hbw))
 obtain ⟨vv,hvv⟩:=nmQ (validB G)
 have HVV:=hid hvv
 rw [hvv] at KV
 obtain ⟨bR,hbR⟩:=nmQ (W1.heap.size)
 rw [hbR] at n2
 have H1:=hid (And.intro n1 hb1)
 have H2:=hid (And.intro n2 hb2)
 have HSR:=hid (And.intro hb1.size hbR)
 clear h hbw hvv hb1 hb2 n1 n2 n1'
 go_enter Tryz.func23,Tryz.ntmps23
 go_wp2_with fail
 refine KV.out.mono ?_
 rintro e w3 ⟨rfl,hb3⟩
 have n2':=(hb3.block _ (ltQ H2.out.1)).trans H2.out.1
 have r0:=coQ n2' 0
 have r1:=coQ n2' 1
 have q0:=foQ n2' 0
 have q1:=foQ n2' 1
 have hS2:=H2.out.2.size
 have hSz:=HSR.out.1
 have HB3:=hid hb3
 clear KV b0 b1 b2 b3 b4
 cases vv
 ·obtain ⟨wa,ea⟩:=nmQ (w3.setCell ⟨bR,0,none⟩ (.slice none 0 0))
  have na:wa.heap[bR]?=some (.cells #[.slice none 0 0,.slice none 0 0] 55 (0,0)):=by rw [<-ea]; exact heap_setCell_same _ _ 0 _ 55 _ n2'
  have ra:=coQ na 1
  have qa:=foQ na 1
  obtain ⟨wb,eb⟩:=nmQ (wa.setCell ⟨bR,1,none⟩ (.slice none 0 0))
  have HNB:=hid (show wb.heap[bR]?=some (.cells #[.slice none 0 0,.slice none 0 0] 55 (0,0)) from by rw [<-eb]; exact heap_setCell_same _ _ 1 _ 55 _ na)
  have hle:w.heap.size<=bR:=by rw [<-hbR]; exact hSz
  have HFIN:=hid (show Below w.heap.size w wb from by
   rw [<-eb,<-ea]
   exact ((H1.out.2.trans ((H2.out.2.trans (hb3.mono hS2)).mono hSz)).setCell hle _).setCell hle _)
  clear hb3 n2' na
  go_wp2_with fail
  refine bodyPost_ret (v:=.tuple #[noAut,.int .i64 1]) (results49 rfl _ _ bR _ _ 1 rfl rfl HNB.out) rfl ?_
  exact ⟨HFIN.out,.inl ⟨HVV.out,rfl⟩⟩
 obtain ⟨W4,e4⟩:=nmQ (w3.alloc (.cells #[.int .i64 (-1),.int .i64 0] 60))
 have n4:W4.heap[w3.heap.size]?=some (.cells #[.int .i64 (-1),.int .i64 0] 60 (0,0)):=nbQ e4
 have h4:Below w3.heap.size w3 W4:=baQ e4
 obtain ⟨W5,e5⟩:=nmQ (W4.alloc (.cells #[.slice (some ⟨w3.heap.size,0,none⟩) 1 1] 45))
 have n5:W5.heap[W4.heap.size]?=some (.cells #[.slice (some ⟨w3.heap.size,0,none⟩) 1 1] 45 (0,0)):=nbQ e5
 have h5:Below W4.heap.size W4 W5:=baQ e5
 obtain ⟨W6,e6⟩:=nmQ (W5.alloc (.cells #[.slice none 0 0,.slice none 0 0] 55))
 have n6:W6.heap[W5.heap.size]?=some (.cells #[.slice none 0 0,.slice none 0 0] 55 (0,0)):=nbQ e6
 have c6:=coQ n6 0
 have f6:=foQ n6 0
 obtain ⟨W7,e7⟩:=nmQ (W6.setCell ⟨W5.heap.size,0,none⟩ (.slice (some ⟨W4.heap.size,0,none⟩) 1 1))
 have n7:W7.heap[W5.heap.size]?=some (.cells #[.slice (some ⟨W4.heap.size,0,none⟩) 1 1,.slice none 0 0] 55 (0,0)):=hsQ e7 n6
 have c7:=coQ n7 1
 have f7:=foQ n7 1
 obtain ⟨W8,e8⟩:=nmQ (W7.setCell ⟨W5.heap.size,1,none⟩ (.slice none 0 0))
 have n8:W8.heap[W5.heap.size]?=some (.cells #[.slice (some ⟨W4.heap.size,0,none⟩) 1 1,.slice none 0 0] 55 (0,0)):=hsQ e8 n7
 have h8:Below W5.heap.size W5 W8:=by
  rw [<-e8,<-e7,<-e6]
  exact (((Below.refl _ _).alloc (Nat.le_refl _) _).setCell (Nat.le_refl _) _).setCell (Nat.le_refl _) _
 obtain ⟨W9,e9⟩:=nmQ (W8.alloc (.map #[] 0))
 have h9:Below W8.heap.size W8 W9:=baQ e9
 have hm9:MapIs Tryz.prog 9 W9 W8.heap.size []:=by rw [<-e9]; exact MapIs.made W8
 have n8':=(h9.block _ (ltQ n8)).trans n8
 have n5':=(h9.block _ (by have:=h8.size; have:=(ltQ n5); omega)).trans ((h8.block _ (ltQ n5)).trans n5)
 have n4':=(h9.block _ (by have:=h8.size; have:=h5.size; have:=(ltQ n4); omega)).trans ((h8.block _ (by have:=h5.size; have:=(ltQ n4); omega)).trans ((h5.block _ (ltQ n4)).trans n4))
 have c9:W9.cell? ⟨W5.heap.size,0,none⟩=some (.slice (some ⟨W4.heap.size,0,none⟩) 1 1):=coQ n8' 0
 have d9:W9.cell? ⟨W4.heap.size,0,none⟩=some (.slice (some ⟨w3.heap.size,0,none⟩) 1 1):=coQ n5' 0
 have hb39:Below w.heap.size w w3:=H1.out.2.trans ((H2.out.2.trans (hb3.mono hS2)).mono hSz)
 have hb49:=hb39.trans (h4.mono hb39.size)
 have hb59:=hb49.trans (h5.mono hb49.size)
 have hb89:=hb59.trans (h8.mono hb59.size)
 have hb99:=hb89.trans (h9.mono hb89.size)
 have KK:=hid (keyOf_any (l:=[((-1:Int),(0:Int))]) (v:=.slice (some ⟨w3.heap.size,0,none⟩) 1 1) (w:=W9) ⟨_,_,rfl,by show (1:Nat)<=9223372036854775807; omega,fun _=>⟨w3.heap.size,0,rfl,fun i hi=>by
  obtain rfl:i=0:=by have:i < 1:=hi; omega
  exact ⟨coQ n4' 0,coQ n4' 1⟩⟩⟩ (fun x hx=>by
  obtain rfl:x=((-1:Int),(0:Int)):=by simpa using hx
  exact ⟨⟨by decide,by decide⟩,by decide,by decide⟩) (by show (1:Nat)<=1000000; omega) (HT.out.on (hb99.mono hBt)) (Nat.le_trans hBt hb99.size))
 have H4:=hid (And.intro n4 h4)
 have H5:=hid (And.intro n5 h5)
 have H8:=hid (And.intro n8 h8)
 have H9:=hid (And.intro h9 hm9)
 have HB9:=hid hb99
 have hmm:=@run_makeMap Tryz.prog
 have hmf:∀ (fn:Fn) (first cap:Array Value) (w:World),(Instr.makeFunc fn first cap).run Tryz.prog w=.ok (.func fn first cap) w:=fun _ _ _ _=>rfl
 clear hb3 n2' n4 h4 n5 h5 n6 n7 n8 h8 h9 hm9 n8' n5' n4' hb39 hb49 hb59 hb89 hb99 r0 r1 q0 q1
 go_wp2_with fail
 refine KK.out.mono ?_
 rintro e W10 ⟨rfl,hb10⟩
 have HM10:=hid (H9.out.2.below hb10)
 have HB10:=hid hb10
 have hkey:=key9 (k:=[((-1:Int),(0:Int))]) (fun x hx=>by
  obtain rfl:x=((-1:Int),(0:Int)):=by simpa using hx
  exact ⟨⟨by decide,by decide⟩,by decide,by decide⟩) (by show (1:Nat)<=1000000; omega)
 unfold keyV at hkey
 clear hb10 KK c9 d9 c6 f6 c7 f7 e4 e5 e6 e7 e8 e9 hmm
 go_wp2_with (refine wpList_put rfl (.tmp 20) (.tmp 25) (.const (.int .i64 0)) 121 (.inr rfl) keyed9 Tryz.underlying121 rfl HM10.out (.string ⟨(keyI [((-1:Int),(0:Int))]).toArray⟩) (.int .i64 0) (.string (keyI [((-1:Int),(0:Int))])) rfl rfl hkey (by simp) ?_)
 intro w11 hm11 hg11
 have h11:Below W8.heap.size W8 w11:=(H9.out.1.trans (HB10.out.mono H9.out.1.size)).grown hg11 (Nat.le_trans H9.out.1.size HB10.out.size) (fun k e=>by injection e with e; omega)
 obtain ⟨W12,e12⟩:=nmQ (w11.alloc (.cells #[.map none] 121))
 have n12:W12.heap[w11.heap.size]?=some (.cells #[.map none] 121 (0,0)):=nbQ e12
 have c12:=cell1 n12
 have f12:=foQ n12 0
 obtain ⟨W13,e13⟩:=nmQ (W12.setCell ⟨w11.heap.size,0,none⟩ (.map (some W8.heap.size)))
 have n13:W13.heap[w11.heap.size]?=some (.cells #[.map (some W8.heap.size)] 121 (0,0)):=hsQ e13 n12
 have h13:Below w11.heap.size w11 W13:=by
  rw [<-e13,<-e12]
  exact ((Below.refl _ _).alloc (Nat.le_refl _) _).setCell (Nat.le_refl _) _
 have HBF:=hid (bf_start H1.out.1 H1.out.2 hbR H2.out.1 H2.out.2 HB3.out rfl H4.out.1 H4.out.2 rfl H5.out.1 H5.out.2 rfl H8.out.1 H8.out.2 rfl hm11 h11 rfl n13 h13)
 clear hm11 hg11 h11 n12 n13 h13 HM10 HB10 hkey HB9 H9 H8 H5 H4 HB3 H2 H1 hS2 HSR
 go_wp2_with fail
 clear c12 f12 e12 e13 e1 e2 hmf
 generalize W5.heap.size=bA at *
 generalize W8.heap.size=bM at *
 generalize w11.heap.size=bN at *
 generalize w3.heap.size=g0 at *
 generalize W4.heap.size=gK at *
 go_loopw [7,8,9,10,11,55,70] (fun t7 t8 t9 t10 t11 t55 t70 wr=>∃ (m:Nat) (K:List KR) (N:List NR) (F:List (Nat × List It)) (kv nv:Value),t7=.int .i64 (m:Int)/\Hid (Built G m/\kers K=(iterB G m).ker/\nxts N=(iterB G m).nx)/\Hid (BF w.heap.size w wr bA bN bM w.heap.size bR #[.slice to_ G.terms.length tc,ov,.slice so G.sorts.length sc,pv,.int .i64 G.start] kv nv K N F (.slice none 0 0) [] noneI)) (fun t7 _ _ _ _ _ _ _=>2001 - (RowKit.intOf t7).toNat)
 case atStart=>exact ⟨0,_,_,_,_,_,rfl,hid ⟨Built.zero G,rfl,rfl⟩,HBF⟩
 case round =>
  clear HBF
  obtain ⟨m,K,N,F,kv,nv,rfl,HJ,HBF⟩:=hrel
  have hK2:K.length<=2000:=by
   have:=HJ.out.1.le
   rw [<-HJ.out.2.1,kers_len] at this
   exact this
  by_cases hlt:m < K.length
  ·have t1:(m:Int) < (K.length:Int):=by omega
   have t2:(0:Int)<=(m:Int):=by omega
   obtain ⟨q,hq⟩:∃ q,K[m]?=some q:=⟨_,geQ hlt⟩
   obtain ⟨gk,ck,rfl,hck⟩:=HBF.out.ker (by omega) hq
   have HQ:=hid hq
   have hql:q.2.2.length<=1573:=X14.iter_len HVV.out m q.2.2 (by rw [<-HJ.out.2.1]; exact List.mem_map.2 ⟨q,List.mem_of_getElem? hq,rfl⟩)
   have cA0:wr.cell? ⟨bA,0,none⟩=some (.slice (some ⟨gk,0,none⟩) K.length ck):=coQ HBF.out.boxA 0
   obtain ⟨we,ewe⟩:=nmQ (wr.drew)
   have hbe:Below wr.heap.size wr we:=bdQ ewe
   have HBFe:=hid (HBF.out.below hbe)
   have HS:=hid (show ∀ w',Below we.heap.size we w'->(w'.cell? ⟨w.heap.size,0,none⟩=some (.slice to_ G.terms.length tc)/\w'.cell? ⟨w.heap.size,1,none⟩=some ov/\w'.cell? ⟨w.heap.size,2,none⟩=some (.slice so G.sorts.length sc)/\w'.cell? ⟨w.heap.size,3,none⟩=some pv/\w'.cell? ⟨w.heap.size,4,none⟩=some (.int .i64 G.start)/\w'.cell? ⟨bA,0,none⟩=some (.slice (some ⟨gk,0,none⟩) K.length ck)/\w'.cell? ⟨gk,m,none⟩=some (.slice (some ⟨q.1,0,none⟩) q.2.2.length q.2.1)) from fun w' hC=>by
    have hh:=hbe.trans (hC.mono hbe.size)
    have nG:=(hh.block _ (ltQ HBF.out.boxG)).trans HBF.out.boxG
    unfold kval at hck
    exact ⟨coQ nG 0,coQ nG 1,coQ nG 2,coQ nG 3,coQ nG 4,cell_below hh cA0,cell_below hh hck⟩)
   have HH0:=HS.out we (Below.refl _ _)
   have KC:=hid (closed_any (HGr.out.below HBFe.out.bel) HVV.out (.slice (some ⟨q.1,0,none⟩) q.2.2.length q.2.1) q.2.2 (rowH_items (HBFe.out.froz (q.1,q.2.2) (HBF.out.inF q (List.mem_of_getElem? hq))) (by omega)) (by omega))
   clear hq hck hbe HBF
   go_wp2_with fail
   refine region_T 9 (fun w'=>w'.cell? ⟨w.heap.size,0,none⟩=some (.slice to_ G.terms.length tc)/\w'.cell? ⟨w.heap.size,1,none⟩=some ov/\w'.cell? ⟨w.heap.size,2,none⟩=some (.slice so G.sorts.length sc)/\w'.cell? ⟨w.heap.size,3,none⟩=some pv/\w'.cell? ⟨w.heap.size,4,none⟩=some (.int .i64 G.start)/\w'.cell? ⟨bA,0,none⟩=some (.slice (some ⟨gk,0,none⟩) K.length ck)/\w'.cell? ⟨gk,m,none⟩=some (.slice (some ⟨q.1,0,none⟩) q.2.2.length q.2.1)) (by kernel_rfl) (by rw [ewe]; exact HH0) (fun inv hHeld=>?_)
   rw [ewe]
   clear hHeld ewe
   iterate 7
    refine anyT_auto (v:=?_) rfl (by kernel_rfl) (fun _ _ _ h=>h) (Or.inl ⟨by rfl,?_⟩) HH0 inv (fun inv=>?_)
    rotate_left
    ·intro w hSw
     try dsimp only at hSw
     go_simp
     try with_reducible rfl
    simp only [Act.put,sjA,sj0,sjS]
   refine anyT_next (i:=7) (o:={dst:=some 42,op:=.call {callee:=.value (.func 62),args:=#[.tmp 36,.tmp 41],argTypes:=#[27,45]},type:=45,pos := "states.go:147",after:=#[{on:=1,ground:=.data},{on:=6,ground:=.data}],guard:=none}) (by kernel_rfl) rfl (by decide) inv (fun inv K' hK=>?_)
   go_simp
   refine KC.out.mono ?_
   rintro e wc ⟨g,c,L,k1,rfl,k2,k3,k4,k5⟩
   have HE:=hid (X14.closeX_eq k1)
   have hLl:L.length<=1573:=by have:=X14.closeV_len G q.2.2; rw [closeV_eq HVV.out,<-HE.out] at this; exact this
   have HLT:=hid (show ∀ x ∈ L,thereX G x=true from fun x hx=>((k1.2 x).1 hx).there)
   have HBFc:=hid (HBFe.out.below k5)
   have KS:=hid (steps_any (HGr.out.below HBFc.out.bel) HVV.out (rowH_items (c:=c) k2 (by omega)) HLT.out (by omega))
   have HH1:=HS.out wc k5
   have HK5:=hid k5
   refine hK.out _ _ HH1 ?_
   clear hK K' HH0 k1 k2 k3 k4 k5 KC
   try simp only [Act.put,sjA,sj0,sjS]
   refine anyT_next (i:=8) (o:={dst:=some 43,op:=.call {callee:=.value (.func 61),args:=#[.tmp 35,.tmp 42],argTypes:=#[27,45]},type:=124,pos := "states.go:147",after:=#[{on:=0,ground:=.data},{on:=7,ground:=.data},{on:=7,ground:=.chain}],guard:=none}) (by kernel_rfl) rfl (by decide) inv (fun inv K' hK=>?_)
   go_simp
   refine KS.out.mono ?_
   rintro e w4 ⟨b,M,rfl,hst⟩
   have HST:=hid hst
   have HH2:=HS.out w4 (HK5.out.trans (hst.bel.mono HK5.out.size))
   have HBF4:=hid (HBFc.out.steps hst)
   refine hK.out _ _ HH2 ?_
   clear hK K' HH1 hst KS
   try simp only [Act.put,sjA,sj0,sjS]
   refine anyT_one (i:=9) (o:={dst:=some 8,op:=.assign (.tmp 43),type:=124,pos := "states.go:147",after:=#[{on:=8,ground:=.data},{on:=8,ground:=.chain},{on:=0,ground:=.phase},{on:=1,ground:=.phase},{on:=2,ground:=.phase},{on:=3,ground:=.phase},{on:=4,ground:=.phase},{on:=5,ground:=.phase},{on:=6,ground:=.phase},{on:=7,ground:=.phase},{on:=8,ground:=.phase}],guard:=none}) (by kernel_rfl) rfl (fun K' hK=>?_)
   go_simp
   refine hK.out _ _ (fun h=>absurd h (by decide)) ?_
   clear hK K'
   try simp only [Act.put,sjA,sj0,sjS]
   refine anyT_done (by kernel_rfl) ?_ _
   clear HH2 HS HBFe HBFc HK5
   have hmq:(iterB G m).ker.getD m []=q.2.2:=by
    rw [<-HJ.out.2.1]
    exact X14.getD_get (by unfold kers; rw [List.getElem?_map,HQ.out]; rfl)
   have HSU:=hid (X14.iter_succ G m)
   rw [hmq,<-HE.out] at HSU
   have hker0:(iterB G m).ker.length=K.length:=by rw [<-HJ.out.2.1,kers_len]
   obtain ⟨KER,hKER⟩:=nmQ ((iterB G m).ker)
   have HKE:=hid hKER
   rw [hKER] at HSU hker0
   obtain ⟨nt,hnt⟩:=nmQ (G.terms.length)
   obtain ⟨ns,hns⟩:=nmQ (G.sorts.length)
   have HNT:=hid hnt
   have HNS:=hid hns
   have hvp:=valid_parts HVV.out
   have hnt60:nt<=60:=by rw [<-hnt]; exact hvp.1
   have hns60:ns<=60:=by rw [<-hns]; exact hvp.2.1
   rw [hnt,hns] at HBF4
   have c0:w4.cell? ⟨w.heap.size,0,none⟩=some (.slice to_ nt tc):=coQ HBF4.out.boxG 0
   have c2:w4.cell? ⟨w.heap.size,2,none⟩=some (.slice so ns sc):=coQ HBF4.out.boxG 2
   obtain ⟨w5,e5⟩:=nmQ (w4.alloc (.cells (Array.replicate (nt + ns) (.int .i64 0)) 3))
   have MADE:=made_ints (nt + ns) (by omega) w4
   rw [e5,Int.natCast_add] at MADE
   have HBF5:=hid (HBF4.out.begin_ (by omega) e5)
   have c05:w5.cell? ⟨w.heap.size,0,none⟩=some (.slice to_ nt tc):=coQ HBF5.out.boxG 0
   have HSL:=hid (show (symsX G).length=nt + ns from by rw [X14.symsX_len,hnt,hns])
   obtain ⟨F4,hF4⟩:=nmQ (F ++ rowsOf (stepX G L) M)
   have HF4:=hid hF4
   rw [hF4] at HBF5
   clear hKER hnt hns hvp hmq HBF4 e5 hF4
   generalize w4.heap.size=gr at *
   go_wp2_with fail
   clear MADE c0 c2 c05
   go_loopw [9,10,55] (fun t9 t10 t55 wz=>∃ (t:Nat) (K':List KR) (kv':Value),t<=nt/\t55=.int .i64 (t:Int)/\Hid (kers K'=(rowS G L KER t).2)/\Hid (BF w.heap.size w wz bA bN bM w.heap.size bR #[.slice to_ nt tc,ov,.slice so ns sc,pv,.int .i64 G.start] kv' nv K' N F4 t9 (zints (rowS G L KER t).1) (mapI 61 b (M.map (entV (stepX G L)))))) (fun _ _ t55 _=>nt - (RowKit.intOf t55).toNat)
   case atStart=>exact ⟨0,K,_,Nat.zero_le _,rfl,hid (HJ.out.2.1.trans HKE.out),HBF5⟩
   case round =>
    clear HBF5
    obtain ⟨t,K',kv',htn,rfl,HK',HBF⟩:=hrel
    by_cases hlt2:t < nt
    ·have t3:(t:Int) < (nt:Int):=by omega
     have hsy:=(X14.syms_term (G:=G) (t:=t) (by rw [HNT.out]; exact hlt2))
     have hst2:=X14.rowS_succ (c:=L) (ker:=KER) hsy
     have HRS:=hid hst2
     have hlen:=X14.rowS_len G L KER t
     have hKl:K'.length<=100000:=by
      have h1:=HK'.out
      have h2:=congrArg List.length h1
      rw [kers_len] at h2
      omega
     have HKL:=hid hKl
     obtain ⟨v,hrun,hka⟩:=HST.out.look2 HBF.out.mi_ (s:=(t:Int)) (by omega) (by omega) F
     rw [HF4.out] at hka
     have HRUN:=hid hrun
     have KN:=hid (numberOf_any HBF.out hka (X14.step_inR HVV.out HLT.out) (Nat.le_trans (by unfold X14.stepX; rw [List.length_map]; exact List.length_filter_le _ _) (Nat.le_trans hLl (by decide))) hKl HT.out hBt)
     obtain ⟨S,hS⟩:=nmQ ((rowS G L KER t).1)
     obtain ⟨KS,hKS⟩:=nmQ ((rowS G L KER t).2)
     rw [hS,hKS] at HRS
     rw [hS] at HBF KN hlen
     rw [hKS] at HK' hlen
     have hSl:S.length<=1000:=by omega
     obtain ⟨num,hnum⟩:=nmQ (numX (stepX G L ((t:Int))) (kers K'))
     have HNUM:=hid hnum
     unfold NumP at KN
     rw [hnum] at KN
     obtain ⟨ro,rc,rfl⟩:=own_shape HBF.out.row
     have hzl:(zints S).length=S.length:=by unfold zints; rw [List.length_map]
     rw [hzl] at HBF KN
     clear hst2 hrun hka hsy hS hKS hnum hlen
     go_wp2_with (at_lookup; refine wpList_look_run rfl (.tmp 60) (.tmp 61) 124 rfl rfl (.int .i64 ((t:Int))) v rfl HRUN.out ?_)
     refine KN.out.mono ?_
     rintro e w6 ⟨K2,kv2,rfl,hk2,hbf6⟩
     have HK6:=hid hk2
     have HBF6:=hid hbf6
     obtain ⟨wq,eq⟩:=nmQ (w6.alloc (.cells #[.int .i64 num.1] 3))
     have hbq:Below w6.heap.size w6 wq:=baQ eq
     have HNQ:=hid (show wq.heap[w6.heap.size]?=some (.cells #[.int .i64 num.1] 3 (0,0)) from by rw [<-eq]; exact new_block _ _)
     have HBFq:=hid (HBF6.out.below hbq)
     have hdq:=HBFq.out.size
     have hrow:=HBFq.out.row
     have HROW:=hid hrow
     have hzl2:(zints S).length<=1000000:=by omega
     clear hk2 hbf6 hbq KN HBF hrow
     go_wp2_with (at_builtin; refine wpList_push1 rfl (.tmp 58) (.tmp 64) 43 3 rfl (.int .i64 0) 8 Tryz.underlying43 info3 rfl (by decide) w.heap.size (.slice ro S.length rc) (zints S) rfl HROW.out w6.heap.size rfl (.int .i64 num.1) HNQ.out rfl hzl2 hdq ?_)
     intro v7 w7 hown7 hg7 hat7
     have HBF7:=hid (HBFq.out.number (ys:=zints S ++ [.int .i64 num.1]) (by rw [List.length_append,hzl]; exact hown7) hg7 hat7)
     clear hown7 hg7 hat7 eq
     have HBF8:=hid (show BF w.heap.size w w7 bA bN bM w.heap.size bR #[.slice to_ nt tc,ov,.slice so ns sc,pv,.int .i64 G.start] kv2 nv K2 N F4 v7 (zints (rowS G L KER (t + 1)).1) (mapI 61 b (M.map (entV (stepX G L)))) from by
      rw [HRS.out,<-HK'.out,HNUM.out]
      have e1:zints (S ++ [num.1])=zints S ++ [.int .i64 num.1]:=by simp [zints]
      rw [e1]
      exact HBF7.out)
     have HK8:=hid (show kers K2=(rowS G L KER (t + 1)).2 from by rw [HRS.out,HK6.out,<-HK'.out,HNUM.out])
     go_wp2_with fail
     refine ⟨⟨t + 1,K2,kv2,by omega,rfl,HK8,HBF8⟩,?_⟩
     show nt - ((t:Int) + 1).toNat < nt - ((t:Int)).toNat
     omega
    ·have t3:¬ (t:Int) < (nt:Int):=by omega
     have htt:t=nt:=by omega
     subst htt
     have c2:wr.cell? ⟨w.heap.size,2,none⟩=some (.slice so ns sc):=coQ HBF.out.boxG 2
     generalize hwo:wr=wo at *
     clear hwo hlt2 htn
     obtain ⟨t9,ht9⟩:=nmQ (u9)
     subst ht9
     go_wp2_with fail
     clear c2 t3
     go_loopw [9,11,70] (fun t9 t11 t70 wz=>∃ (s:Nat) (K':List KR) (kv':Value),s<=ns/\t70=.int .i64 (s:Int)/\Hid (kers K'=(rowS G L KER (t + s)).2)/\Hid (BF w.heap.size w wz bA bN bM w.heap.size bR #[.slice to_ t tc,ov,.slice so ns sc,pv,.int .i64 G.start] kv' nv K' N F4 t9 (zints (rowS G L KER (t + s)).1) (mapI 61 b (M.map (entV (stepX G L)))))) (fun _ _ t70 _=>ns - (RowKit.intOf t70).toNat)
     case atStart=>exact ⟨0,K',kv',Nat.zero_le _,rfl,HK',HBF⟩
     case round =>
      clear HBF HK'
      obtain ⟨s,K',kv',hsn,rfl,HK',HBF⟩:=hrel
      by_cases hlt3:s < ns
      ·have t4:(s:Int) < (ns:Int):=by omega
       have hs60:s < 60:=by omega
       have hsy:(symsX G)[t + s]?=some (-1 - (s:Int)):=by
        have:=X14.syms_sort (G:=G) (s:=s) (by rw [HNS.out]; exact hlt3)
        rw [HNT.out] at this
        exact this
       skip
       have hst2:=X14.rowS_succ (c:=L) (ker:=KER) hsy
       have HRS:=hid hst2
       have hlen:=X14.rowS_len G L KER (t + s)
       have hKl:K'.length<=100000:=by
        have h1:=HK'.out
        have h2:=congrArg List.length h1
        rw [kers_len] at h2
        omega
       have HKL:=hid hKl
       obtain ⟨v,hrun,hka⟩:=HST.out.look2 HBF.out.mi_ (s:=-1 - (s:Int)) (by omega) (by omega) F
       rw [HF4.out] at hka
       have HRUN:=hid hrun
       have KN:=hid (numberOf_any HBF.out hka (X14.step_inR HVV.out HLT.out) (Nat.le_trans (by unfold X14.stepX; rw [List.length_map]; exact List.length_filter_le _ _) (Nat.le_trans hLl (by decide))) hKl HT.out hBt)
       obtain ⟨S,hS⟩:=nmQ ((rowS G L KER (t + s)).1)
       obtain ⟨KS,hKS⟩:=nmQ ((rowS G L KER (t + s)).2)
       rw [hS,hKS] at HRS
       rw [hS] at HBF KN hlen
       rw [hKS] at HK' hlen
       have hSl:S.length<=1000:=by omega
       obtain ⟨num,hnum⟩:=nmQ (numX (stepX G L (-1 - (s:Int))) (kers K'))
       have HNUM:=hid hnum
       unfold NumP at KN
       rw [hnum] at KN
       obtain ⟨ro,rc,rfl⟩:=own_shape HBF.out.row
       have hzl:(zints S).length=S.length:=by unfold zints; rw [List.length_map]
       rw [hzl] at HBF KN
       clear hst2 hrun hka hsy hS hKS hnum hlen
       go_wp2_with (at_lookup; refine wpList_look_run rfl (.tmp 75) (.tmp 77) 124 rfl rfl (.int .i64 (-1 - (s:Int))) v rfl HRUN.out ?_)
       refine KN.out.mono ?_
       rintro e w6 ⟨K2,kv2,rfl,hk2,hbf6⟩
       have HK6:=hid hk2
       have HBF6:=hid hbf6
       obtain ⟨wq,eq⟩:=nmQ (w6.alloc (.cells #[.int .i64 num.1] 3))
       have hbq:Below w6.heap.size w6 wq:=baQ eq
       have HNQ:=hid (show wq.heap[w6.heap.size]?=some (.cells #[.int .i64 num.1] 3 (0,0)) from by rw [<-eq]; exact new_block _ _)
       have HBFq:=hid (HBF6.out.below hbq)
       have hdq:=HBFq.out.size
       have hrow:=HBFq.out.row
       have HROW:=hid hrow
       have hzl2:(zints S).length<=1000000:=by omega
       clear hk2 hbf6 hbq KN HBF hrow
       go_wp2_with (at_builtin; refine wpList_push1 rfl (.tmp 73) (.tmp 80) 43 3 rfl (.int .i64 0) 8 Tryz.underlying43 info3 rfl (by decide) w.heap.size (.slice ro S.length rc) (zints S) rfl HROW.out w6.heap.size rfl (.int .i64 num.1) HNQ.out rfl hzl2 hdq ?_)
       intro v7 w7 hown7 hg7 hat7
       have HBF7:=hid (HBFq.out.number (ys:=zints S ++ [.int .i64 num.1]) (by rw [List.length_append,hzl]; exact hown7) hg7 hat7)
       clear hown7 hg7 hat7 eq
       have HBF8:=hid (show BF w.heap.size w w7 bA bN bM w.heap.size bR #[.slice to_ t tc,ov,.slice so ns sc,pv,.int .i64 G.start] kv2 nv K2 N F4 v7 (zints (rowS G L KER (t + (s + 1))).1) (mapI 61 b (M.map (entV (stepX G L)))) from by
        rw [<-Nat.add_assoc,HRS.out,<-HK'.out,HNUM.out]
        have e1:zints (S ++ [num.1])=zints S ++ [.int .i64 num.1]:=by simp [zints]
        rw [e1]
        exact HBF7.out)
       have HK8:=hid (show kers K2=(rowS G L KER (t + (s + 1))).2 from by rw [<-Nat.add_assoc,HRS.out,HK6.out,<-HK'.out,HNUM.out])
       go_wp2_with fail
       refine ⟨⟨s + 1,K2,kv2,by omega,rfl,HK8,HBF8⟩,?_⟩
       show ns - ((s:Int) + 1).toNat < ns - ((s:Int)).toNat
       omega
      ·have t4:¬ (s:Int) < (ns:Int):=by omega
       have hss:s=ns:=by omega
       subst hss
       have hlenR:(rowS G L KER (t + s)).1.length=t + s:=by
        have h1:=(X14.rowX_len G L (symsX G) ([],KER)).1
        rw [<-X14.rowS_all,HSL.out] at h1
        simpa using h1
       have HKF:=hid (show kers K'=(iterB G (m + 1)).ker from HK'.out.trans (by rw [HSU.out.1,HSL.out]))
       obtain ⟨R,hR⟩:=nmQ ((rowS G L KER (t + s)).1)
       have HNX:=hid (show (iterB G (m + 1)).nx=nxts N ++ [R] from by rw [HSU.out.2,HSL.out,hR,HJ.out.2.2])
       rw [hR] at HBF hlenR
       have hs1:1<=s:=by
        have:=valid_start HVV.out
        rw [HNS.out] at this
        omega
       have hzl:(zints R).length=R.length:=by unfold zints; rw [List.length_map]
       have hrow:=HBF.out.row
       rw [hzl] at hrow
       obtain ⟨g,rc,rfl⟩:∃ g rc,u9=.slice (some ⟨g,0,none⟩) R.length rc:=by
        obtain ⟨z,hz⟩:∃ z,R.length=z + 1:=⟨R.length - 1,by omega⟩
        rw [hz] at hrow
        obtain ⟨g,c,e,_⟩:=own_shape1 hrow
        exact ⟨g,c,by rw [hz]; exact e⟩
       have hNl:N.length=m:=by
        have h1:=congrArg List.length HJ.out.2.2
        rw [(X14.iterB_at G m).2] at h1
        unfold nxts at h1
        rw [List.length_map] at h1
        exact h1
       have hrN:=HBF.out.rowN
       rw [List.length_map] at hrN
       obtain ⟨no,nc,rfl⟩:=own_shape hrN
       have hrK:=HBF.out.rowK
       rw [List.length_map] at hrK
       obtain ⟨ko,kc,rfl⟩:=own_shape hrK
       have cA1:wr.cell? ⟨bA,1,none⟩=some (.slice no N.length nc):=coQ HBF.out.boxA 1
       obtain ⟨wq,eq⟩:=nmQ (wr.alloc (.cells #[.slice (some ⟨g,0,none⟩) R.length rc] 43))
       have hbq:Below wr.heap.size wr wq:=baQ eq
       have HNQ:=hid (show wq.heap[wr.heap.size]?=some (.cells #[.slice (some ⟨g,0,none⟩) R.length rc] 43 (0,0)) from by rw [<-eq]; exact new_block _ _)
       have HBFq:=hid (HBF.out.below hbq)
       have hdq:=HBFq.out.size
       have HROWN:=hid HBFq.out.rowN
       have hNm:(N.map nval).length<=1000000:=by rw [List.length_map]; omega
       clear hrow hrN hrK hbq hR hlt3 HBF hlenR hNl hzl
       go_wp2_with (at_builtin; refine wpList_push1 rfl (.tmp 84) (.tmp 86) 36 43 rfl (.slice none 0 0) 24 Tryz.underlying36 info58 rfl (by decide) w.heap.size (.slice no N.length nc) (N.map nval) rfl HROWN.out wr.heap.size rfl (.slice (some ⟨g,0,none⟩) R.length rc) HNQ.out rfl hNm hdq ?_)
       intro v7 w7 hown7 hg7 hat7
       obtain ⟨nA,hbf8⟩:=HBFq.out.next_ (by simpa using hown7) hg7 hat7
       have cA7:w7.cell? ⟨bA,1,none⟩=some (.slice no N.length nc):=coQ nA 1
       have fA7:=foQ nA 1
       obtain ⟨o7,c7,rfl⟩:=own_shape hown7
       obtain ⟨w8,e8⟩:=nmQ (w7.setCell ⟨bA,1,none⟩ (.slice o7 (N.length + 1) c7))
       rw [e8] at hbf8
       have HBF8:=hid hbf8
       have cA8:w8.cell? ⟨bA,0,none⟩=some (.slice ko K'.length kc):=coQ hbf8.boxA 0
       have nR:=hbf8.boxR
       have HNXN:=hid (show nxts (N ++ [(g,rc,R)])=(iterB G (m + 1)).nx from by rw [HNX.out]; simp [nxts])
       clear hown7 hg7 hat7 nA hbf8 eq cA1
       by_cases hmany:2000 < K'.length
       ·have hm1:(2000:Int) < (K'.length:Int):=by omega
        have HMANY:=hid (show BuiltMany G m from ⟨HJ.out.1,by rw [HKE.out,hker0]; exact hlt,by rw [<-HKF.out,kers_len]; omega⟩)
        have r0:=coQ nR 0
        have q0:=foQ nR 0
        obtain ⟨wa,ea⟩:=nmQ (w8.setCell ⟨bR,0,none⟩ (.slice none 0 0))
        have na:wa.heap[bR]?=some (.cells #[.slice none 0 0,.slice none 0 0] 55 (0,0)):=hsQ ea nR
        have ra:=coQ na 1
        have qa:=foQ na 1
        obtain ⟨wb,eb⟩:=nmQ (wa.setCell ⟨bR,1,none⟩ (.slice none 0 0))
        have HNB:=hid (show wb.heap[bR]?=some (.cells #[.slice none 0 0,.slice none 0 0] 55 (0,0)) from by rw [<-eb]; exact heap_setCell_same _ _ 1 _ 55 _ na)
        have hle:w.heap.size<=bR:=(HBF8.out.foot.lt 9 _ rfl bR (List.mem_singleton.2 rfl)).1
        have HFIN:=hid (show Below w.heap.size w wb from by
         rw [<-eb,<-ea]
         exact (HBF8.out.bel.setCell hle _).setCell hle _)
        clear na nR
        go_wp2_with fail
        refine bodyPost_ret (v:=.tuple #[noAut,.int .i64 4]) (results49 rfl _ _ bR _ _ 4 rfl rfl HNB.out) rfl ?_
        exact ⟨HFIN.out,.inr ⟨HVV.out,m,.inl ⟨HMANY.out,rfl⟩⟩⟩
       ·have hm1:¬ (2000:Int) < (K'.length:Int):=by omega
        have hm2:K'.length<=2000:=by omega
        have HBS:=hid (show Built G (m + 1) from HJ.out.1.succ (by rw [HKE.out,hker0]; exact hlt) (by rw [<-HKF.out,kers_len]; exact hm2))
        clear nR
        go_wp2_with fail
        refine ⟨⟨m + 1,K',_,F4,_,_,rfl,hid ⟨HBS.out,HKF.out,HNXN.out⟩,by rw [HNT.out,HNS.out]; exact HBF8⟩,?_⟩
        show 2001 - ((m:Int) + 1).toNat < 2001 - ((m:Int)).toNat
        omega
  ·have t1:¬ (m:Int) < (K.length:Int):=by omega
   have HOK:=hid (show BuiltOk G m from ⟨HJ.out.1,by rw [<-HJ.out.2.1,kers_len]; exact hlt⟩)
   have hrN:=HBF.out.rowN
   rw [List.length_map] at hrN
   obtain ⟨no,nc,rfl⟩:=own_shape hrN
   have hrK:=HBF.out.rowK
   rw [List.length_map] at hrK
   obtain ⟨ko,kc,rfl⟩:=own_shape hrK
   have cA0:wr.cell? ⟨bA,0,none⟩=some (.slice ko K.length kc):=coQ HBF.out.boxA 0
   have cA1:wr.cell? ⟨bA,1,none⟩=some (.slice no N.length nc):=coQ HBF.out.boxA 1
   have nR:=HBF.out.boxR
   have r0:=coQ nR 0
   have q0:=foQ nR 0
   obtain ⟨wa,ea⟩:=nmQ (wr.setCell ⟨bR,0,none⟩ (.slice ko K.length kc))
   have na:wa.heap[bR]?=some (.cells #[.slice ko K.length kc,.slice none 0 0] 55 (0,0)):=hsQ ea nR
   have ra:=coQ na 1
   have qa:=foQ na 1
   obtain ⟨wb,eb⟩:=nmQ (wa.setCell ⟨bR,1,none⟩ (.slice no N.length nc))
   have HNB:=hid (show wb.heap[bR]?=some (.cells #[.slice ko K.length kc,.slice no N.length nc] 55 (0,0)) from by rw [<-eb]; exact heap_setCell_same _ _ 1 _ 55 _ na)
   have f1:=foot_cell (k:=0) (v:=.slice ko K.length kc) HBF.out.foot 9 rfl
   have f2:=foot_cell (k:=1) (v:=.slice no N.length nc) f1 9 rfl
   rw [ea,eb] at f2
   have HFIN:=hid f2.bel
   have hNl:N.length=m:=by
    have h1:=congrArg List.length HJ.out.2.2
    rw [(X14.iterB_at G m).2] at h1
    unfold nxts at h1
    rw [List.length_map] at h1
    exact h1
   have hKm:K.length=m:=by rw [<-kers_len,HJ.out.2.1]; exact HOK.out.inv.2.2
   have haut:=aut_of (B:=w.heap.size) (F:=F) (f2.ok 3 _ rfl) (f2.ok 4 _ rfl) (f2.ok 5 _ rfl) (f2.ok 6 _ rfl) HBF.out.inF (by omega) (by omega) (fun k hk=>by
    have:=X14.iter_len HVV.out m k (by rw [<-HJ.out.2.1]; exact hk)
    omega) (fun R hR=>by
    have hR2:R ∈ (iterB G m).nx:=by rw [<-HJ.out.2.2]; exact hR
    obtain ⟨i,hi⟩:=List.mem_iff_getElem?.1 hR2
    have h3:=HOK.out.inv.1.rl i R hi
    rw [X14.symsX_len] at h3
    have h4:=valid_parts HVV.out
    exact ⟨by omega,X14.nx_range HOK.out R hR2⟩)
   rw [HJ.out.2.1,HJ.out.2.2] at haut
   have HAUT:=hid haut
   clear hrN hrK na nR f1 f2 haut hNl hKm
   go_wp2_with fail
   refine bodyPost_ret (v:=.tuple #[.agg #[.slice ko K.length kc,.slice no N.length nc],.int .i64 0]) (results49 rfl _ _ bR _ _ 0 rfl rfl HNB.out) rfl ?_
   exact ⟨HFIN.out,.inr ⟨HVV.out,m,.inr ⟨HOK.out,_,rfl,HAUT.out⟩⟩⟩
end Go.Proofs.YticmnfmijdgmbaaGreatDoor
