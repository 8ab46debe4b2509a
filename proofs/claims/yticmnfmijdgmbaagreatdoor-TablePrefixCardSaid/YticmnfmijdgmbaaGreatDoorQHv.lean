/- sets.grow, of truths. -/
import Derived.Test.YticmnfmijdgmbaaGreatDoorQGg
import Derived.Test.YticmnfmijdgmbaaGreatDoorQHs
set_option linter.unusedVariables false
set_option linter.unusedSimpArgs false
namespace Go.Proofs.YticmnfmijdgmbaaGreatDoor.S13
open Go Go.RowKit Go.Lib Go.Joins
theorem new_block (w:World) (o:Obj):(w.alloc o).heap[w.heap.size]?=some o:=by
 show (w.heap.push o)[w.heap.size]?=_
 simp
set_option maxRecDepth 100000 in
set_option maxHeartbeats 2000000 in
theorem growE {G:GD} {gv tv ov sv pv:Value} {tf:Nat->Nat->Value} {rv:Nat->Value} {w0 W:World} {Bg Bi Be lb:Nat} (hG:GrAt w0 gv G tv ov sv pv tf rv) (hV:validB G=true)
  (hbox:w0.cell? ⟨Bg,3,none⟩=some pv) (his:w0.cell? ⟨Bi,0,none⟩=some (.func (.func 86) #[] #[])) (h0:Below w0.heap.size w0 W)
  (hBe:W.heap[Be]?=some (.cells #[.slice (some ⟨lb,0,none⟩) G.sorts.length G.sorts.length] 75)) (hl:W.heap[lb]?=some (.cells ((List.replicate G.sorts.length false).map Value.bool).toArray 4)) (g1:w0.heap.size<=lb) :
  Calls Tryz.prog 114 #[.slice (some ⟨lb,0,none⟩) G.sorts.length G.sorts.length,.func (.func 115) #[] #[],.func (.func 116) #[] #[.pointer (some ⟨Bg,0,none⟩),.pointer (some ⟨Bi,0,none⟩),.pointer (some ⟨Be,0,none⟩)]] W fun e W' =>
   e=.returned (.slice (some ⟨lb,0,none⟩) G.sorts.length G.sorts.length)/\∃ L,Least false G.prods G.sorts.length L/\W'.heap[lb]?=some (.cells (L.map Value.bool).toArray 4)/\Far (fun k=>k=lb) W W':=by
 have pass:=hid (fun (W:World) (h0:Below w0.heap.size w0 W) hBe {Bl Bj Bc:Nat} {L:List Bool} hS g2=>passE (W:=W) (Bg:=Bg) (Bi:=Bi) (Be:=Be) (lb:=lb) (Bl:=Bl) (Bj:=Bj) (Bc:=Bc) (L:=L) hG hV hbox his h0 hBe hS g1 g2)
 have hlb:lb < W.heap.size:=(ltQ hl)
 have hw0:=h0.size
 clear hbox his hV
 generalize hns:G.sorts.length=ns at *
 go_enter Tryz.func114,Tryz.ntmps114
 go_wp2
 obtain ⟨W2,hW2⟩:∃ W2,W2=(W.alloc (.cells #[.slice (some ⟨lb,0,none⟩) ns ns] 75)).alloc (.cells #[.func (.func 115) #[] #[]] 184):=⟨_,rfl⟩
 have hB2:Below W.heap.size W W2:=by rw [hW2]; exact ((Below.refl _ _).alloc (Nat.le_refl _) _).alloc (by simp) _
 have b1:W2.heap[W.heap.size]?=some (.cells #[.slice (some ⟨lb,0,none⟩) ns ns] 75):=by
  rw [hW2]; exact (Below.heap_alloc _ _ _ (by simp)).trans (new_block W _)
 have b2:W2.heap[W.heap.size + 1]?=some (.cells #[.func (.func 115) #[] #[]] 184):=by
  rw [hW2]
  have:=new_block (W.alloc (.cells #[.slice (some ⟨lb,0,none⟩) ns ns] 75)) (.cells #[.func (.func 115) #[] #[]] 184)
  rwa [World.size_alloc] at this
 have b3:=(hB2.block lb hlb).trans hl
 have b4:=(hB2.block Be (ltQ hBe)).trans hBe
 have s2:=hB2.size
 rw [<-hW2]
 clear hW2
 have hbl:W.heap.size ≠ lb:=by omega
 generalize hBl:W.heap.size=Bl at *
 refine wp_scope_label (fun a' w'=>∃ (u7 u8 u9 u10 u11 u12:Value),a'={tmps:=#[.slice (some ⟨lb,0,none⟩) ns ns,.func (.func 115) #[] #[],.func (.func 116) #[] #[.pointer (some ⟨Bg,0,none⟩),.pointer (some ⟨Bi,0,none⟩),.pointer (some ⟨Be,0,none⟩)],.pointer (some ⟨Bl,0,none⟩),.pointer (some ⟨Bl + 1,0,none⟩),undef,.slice none 0 0,u7,u8,u9,u10,u11,u12],defers:=[]} /\
   ∃ L,w'.heap[lb]?=some (.cells (L.map Value.bool).toArray 4)/\L.length=ns/\w'.heap[Bl]?=some (.cells #[.slice (some ⟨lb,0,none⟩) ns ns] 75)/\w'.heap[Bl + 1]?=some (.cells #[.func (.func 115) #[] #[]] 184) /\
    w'.heap[Be]?=some (.cells #[.slice (some ⟨lb,0,none⟩) ns ns] 75)/\Reach false G.prods (List.replicate ns false) L/\Far (fun k=>k=lb) W w')
  (fun _ w'=>falses w'.heap[lb]?) ?_ ?_
 ·exact ⟨_,_,_,_,_,_,rfl,_,b3,by simp,b1,b2,b4,.refl,(Far.ofBelow (by rw [hBl]; exact hB2))⟩
 ·clear b1 b2 b3 b4 s2 hB2 hl hBe
  rintro a' w' ⟨u7,u8,u9,u10,u11,u12,rfl,L,b3,hL,b1,b2,b4,hR,hF⟩
  have hwb:=h0.trans (hF.toBelow (by omega) (by rintro k rfl; omega))
  have hw2:=hwb.size
  obtain ⟨w1,hw1⟩:∃ w1,w1=w'.alloc (.cells #[.bool false] 4):=⟨_,rfl⟩
  have hB1:Below w'.heap.size w' w1:=by rw [hw1]; exact (Below.refl _ _).alloc (Nat.le_refl _) _
  have kp:∀ {b:Nat} {o:Obj},w'.heap[b]?=some o->w1.heap[b]?=some o:=fun ho=>(hB1.block _ (ltQ ho)).trans ho
  have c4:w1.heap[w'.heap.size]?=some (.cells #[.bool false] 4):=by rw [hw1]; exact new_block w' _
  have hlt:=(ltQ b3)
  have HP:=hid (pass.out w1 (hwb.trans (hB1.mono hw2)) (kp b4) (Bl:=Bl) (Bj:=Bl + 1) (Bc:=w'.heap.size) (L:=L) ⟨kp b3,kp b1,kp b2,c4,hL,by omega⟩ (by omega))
  have fl:=falses_list L 4 (0,0)
  have HB:=hid b3
  have HE:=hid (kp b4)
  have HB1:=hid (kp b3)
  have HR:=hid hR
  have hbl2:=(ltQ b1)
  have hbl3:=(ltQ b2)
  have hbl4:=(ltQ b4)
  have hW1:Far (fun k=>k=lb) W w1:=hF.on (Far.ofBelow (S:=fun _=>False) hB1) (fun i h=>h.elim)
  clear hR b1 b2 b3 b4 c4 hB1 hL
  go_wp2_with fail
  rw [<-hw1]
  clear hw1
  refine HP.out.mono ?_
  rintro e w2 ⟨⟨v,rfl⟩,L',c,hS,hFF,hPa⟩
  have d1:=cell_of_block hS.chg 0
  have d2:=cell_of_block hS.var 0
  simp only [List.getElem?_toArray,List.getElem?_cons_zero] at d1 d2
  have hF2:Far (fun k=>k=lb) W w2:=hW1.on hFF (by
   rintro i (rfl | rfl)
   ·exact .inl rfl
   ·right; have:=hF.size; omega)
  have nB:¬ (Be=lb\/Be=w'.heap.size):=by
   rintro (h | h)
   ·have h1:=HE.out
    have h2:=HB1.out
    rw [h,h2] at h1
    simp at h1
   ·omega
  have e4:=hFF.heap HE.out nB
  cases c
  ·obtain ⟨rfl,hcl⟩:=passed_closed hPa
   go_wp2
   simp only [Exit.jump]
   go_ret
   exact ⟨rfl,_,⟨HR.out,hcl⟩,hS.list,hF2⟩
  ·go_wp2
   go_step3
   refine ⟨rfl,⟨_,_,_,_,_,_,rfl,L',hS.list,hS.len,hS.var,hS.join,e4,reach_trans HR.out hPa.1,hF2⟩,?_⟩
   rw [hS.list,HB.out,falses_list,falses_list]
   exact hPa.2.2.2.1 rfl
set_option maxRecDepth 100000 in
set_option maxHeartbeats 2000000 in
theorem growL {G:GD} {gv tv ov sv pv:Value} {tf:Nat->Nat->Value} {rv:Nat->Value} {w0 W:World} {Bg Bi Be lb:Nat} (hG:GrAt w0 gv G tv ov sv pv tf rv) (hV:validB G=true)
  (hbox:w0.cell? ⟨Bg,3,none⟩=some pv) (his:w0.cell? ⟨Bi,0,none⟩=some (.func (.func 74) #[] #[])) (h0:Below w0.heap.size w0 W)
  (hBe:W.heap[Be]?=some (.cells #[.slice (some ⟨lb,0,none⟩) G.sorts.length G.sorts.length] 75)) (hl:W.heap[lb]?=some (.cells ((List.replicate G.sorts.length false).map Value.bool).toArray 4)) (g1:w0.heap.size<=lb) :
  Calls Tryz.prog 114 #[.slice (some ⟨lb,0,none⟩) G.sorts.length G.sorts.length,.func (.func 115) #[] #[],.func (.func 116) #[] #[.pointer (some ⟨Bg,0,none⟩),.pointer (some ⟨Bi,0,none⟩),.pointer (some ⟨Be,0,none⟩)]] W fun e W' =>
   e=.returned (.slice (some ⟨lb,0,none⟩) G.sorts.length G.sorts.length)/\∃ L,Least true G.prods G.sorts.length L/\W'.heap[lb]?=some (.cells (L.map Value.bool).toArray 4)/\Far (fun k=>k=lb) W W':=by
 have pass:=hid (fun (W:World) (h0:Below w0.heap.size w0 W) hBe {Bl Bj Bc:Nat} {L:List Bool} hS g2=>passL (W:=W) (Bg:=Bg) (Bi:=Bi) (Be:=Be) (lb:=lb) (Bl:=Bl) (Bj:=Bj) (Bc:=Bc) (L:=L) hG hV hbox his h0 hBe hS g1 g2)
 have hlb:lb < W.heap.size:=(ltQ hl)
 have hw0:=h0.size
 clear hbox his hV
 generalize hns:G.sorts.length=ns at *
 go_enter Tryz.func114,Tryz.ntmps114
 go_wp2
 obtain ⟨W2,hW2⟩:∃ W2,W2=(W.alloc (.cells #[.slice (some ⟨lb,0,none⟩) ns ns] 75)).alloc (.cells #[.func (.func 115) #[] #[]] 184):=⟨_,rfl⟩
 have hB2:Below W.heap.size W W2:=by rw [hW2]; exact ((Below.refl _ _).alloc (Nat.le_refl _) _).alloc (by simp) _
 have b1:W2.heap[W.heap.size]?=some (.cells #[.slice (some ⟨lb,0,none⟩) ns ns] 75):=by
  rw [hW2]; exact (Below.heap_alloc _ _ _ (by simp)).trans (new_block W _)
 have b2:W2.heap[W.heap.size + 1]?=some (.cells #[.func (.func 115) #[] #[]] 184):=by
  rw [hW2]
  have:=new_block (W.alloc (.cells #[.slice (some ⟨lb,0,none⟩) ns ns] 75)) (.cells #[.func (.func 115) #[] #[]] 184)
  rwa [World.size_alloc] at this
 have b3:=(hB2.block lb hlb).trans hl
 have b4:=(hB2.block Be (ltQ hBe)).trans hBe
 have s2:=hB2.size
 rw [<-hW2]
 clear hW2
 have hbl:W.heap.size ≠ lb:=by omega
 generalize hBl:W.heap.size=Bl at *
 refine wp_scope_label (fun a' w'=>∃ (u7 u8 u9 u10 u11 u12:Value),a'={tmps:=#[.slice (some ⟨lb,0,none⟩) ns ns,.func (.func 115) #[] #[],.func (.func 116) #[] #[.pointer (some ⟨Bg,0,none⟩),.pointer (some ⟨Bi,0,none⟩),.pointer (some ⟨Be,0,none⟩)],.pointer (some ⟨Bl,0,none⟩),.pointer (some ⟨Bl + 1,0,none⟩),undef,.slice none 0 0,u7,u8,u9,u10,u11,u12],defers:=[]} /\
   ∃ L,w'.heap[lb]?=some (.cells (L.map Value.bool).toArray 4)/\L.length=ns/\w'.heap[Bl]?=some (.cells #[.slice (some ⟨lb,0,none⟩) ns ns] 75)/\w'.heap[Bl + 1]?=some (.cells #[.func (.func 115) #[] #[]] 184) /\
    w'.heap[Be]?=some (.cells #[.slice (some ⟨lb,0,none⟩) ns ns] 75)/\Reach true G.prods (List.replicate ns false) L/\Far (fun k=>k=lb) W w')
  (fun _ w'=>falses w'.heap[lb]?) ?_ ?_
 ·exact ⟨_,_,_,_,_,_,rfl,_,b3,by simp,b1,b2,b4,.refl,(Far.ofBelow (by rw [hBl]; exact hB2))⟩
 ·clear b1 b2 b3 b4 s2 hB2 hl hBe
  rintro a' w' ⟨u7,u8,u9,u10,u11,u12,rfl,L,b3,hL,b1,b2,b4,hR,hF⟩
  have hwb:=h0.trans (hF.toBelow (by omega) (by rintro k rfl; omega))
  have hw2:=hwb.size
  obtain ⟨w1,hw1⟩:∃ w1,w1=w'.alloc (.cells #[.bool false] 4):=⟨_,rfl⟩
  have hB1:Below w'.heap.size w' w1:=by rw [hw1]; exact (Below.refl _ _).alloc (Nat.le_refl _) _
  have kp:∀ {b:Nat} {o:Obj},w'.heap[b]?=some o->w1.heap[b]?=some o:=fun ho=>(hB1.block _ (ltQ ho)).trans ho
  have c4:w1.heap[w'.heap.size]?=some (.cells #[.bool false] 4):=by rw [hw1]; exact new_block w' _
  have hlt:=(ltQ b3)
  have HP:=hid (pass.out w1 (hwb.trans (hB1.mono hw2)) (kp b4) (Bl:=Bl) (Bj:=Bl + 1) (Bc:=w'.heap.size) (L:=L) ⟨kp b3,kp b1,kp b2,c4,hL,by omega⟩ (by omega))
  have fl:=falses_list L 4 (0,0)
  have HB:=hid b3
  have HE:=hid (kp b4)
  have HB1:=hid (kp b3)
  have HR:=hid hR
  have hbl2:=(ltQ b1)
  have hbl3:=(ltQ b2)
  have hbl4:=(ltQ b4)
  have hW1:Far (fun k=>k=lb) W w1:=hF.on (Far.ofBelow (S:=fun _=>False) hB1) (fun i h=>h.elim)
  clear hR b1 b2 b3 b4 c4 hB1 hL
  go_wp2_with fail
  rw [<-hw1]
  clear hw1
  refine HP.out.mono ?_
  rintro e w2 ⟨⟨v,rfl⟩,L',c,hS,hFF,hPa⟩
  have d1:=cell_of_block hS.chg 0
  have d2:=cell_of_block hS.var 0
  simp only [List.getElem?_toArray,List.getElem?_cons_zero] at d1 d2
  have hF2:Far (fun k=>k=lb) W w2:=hW1.on hFF (by
   rintro i (rfl | rfl)
   ·exact .inl rfl
   ·right; have:=hF.size; omega)
  have nB:¬ (Be=lb\/Be=w'.heap.size):=by
   rintro (h | h)
   ·have h1:=HE.out
    have h2:=HB1.out
    rw [h,h2] at h1
    simp at h1
   ·omega
  have e4:=hFF.heap HE.out nB
  cases c
  ·obtain ⟨rfl,hcl⟩:=passed_closed hPa
   go_wp2
   simp only [Exit.jump]
   go_ret
   exact ⟨rfl,_,⟨HR.out,hcl⟩,hS.list,hF2⟩
  ·go_wp2
   go_step3
   refine ⟨rfl,⟨_,_,_,_,_,_,rfl,L',hS.list,hS.len,hS.var,hS.join,e4,reach_trans HR.out hPa.1,hF2⟩,?_⟩
   rw [hS.list,HB.out,falses_list,falses_list]
   exact hPa.2.2.2.1 rfl
theorem info4:(Tryz.prog.info? 4).map (fun i=>(i.zero,i.size,i.bytes))=some (some (.bool false),1,1):=by kernel_rfl
theorem made_bools (n:Nat) (hn:n<=1000000) (w:World):(Instr.makeSlice 75 (.int .i64 (n:Int)) (.int .i64 (n:Int))).run Tryz.prog w=.ok (.slice (some ⟨w.heap.size,0,none⟩) n n) (w.alloc (.cells (Array.replicate n (.bool false)) 4)):=by
 obtain ⟨i0,hi,hz0,hz1,hz2⟩:=info_parts info4
 have:=run_makeSlice (P:=Tryz.prog) (w:=w) 75 4 i0 (.bool false) Tryz.underlying75 hi hz0 .i64 .i64 (n:Int) (n:Int) (by omega) (by omega) (by rw [hz1]; omega) (by rw [hz2]; omega) (by omega)
 rw [this,hz1]
 have e:madeCells (Value.bool false).cells ((n:Int).toNat * 1)=Array.replicate n (.bool false):=by
  rw [Int.toNat_natCast,Nat.mul_one]
  refine Array.ext (by simp [madeCells]) fun i h1 h2=>?_
  simp [madeCells,Value.cells,Nat.mod_one]
 rw [e,Int.toNat_natCast]
set_option maxRecDepth 100000 in
set_option maxHeartbeats 2000000 in
theorem everyE {G:GD} {gv tv ov sv pv:Value} {tf:Nat->Nat->Value} {rv:Nat->Value} {w:World} (h:GrAt w gv G tv ov sv pv tf rv) (hV:validB G=true) :
  Calls Tryz.prog 73 #[gv,.func (.func 86) #[] #[]] w fun e W' =>
   ∃ lb L,e=.returned (.slice (some ⟨lb,0,none⟩) G.sorts.length G.sorts.length)/\Least false G.prods G.sorts.length L/\W'.heap[lb]?=some (.cells (L.map Value.bool).toArray 4)/\w.heap.size<=lb/\Below w.heap.size w W':=by
 have hs:=h.sorts
 have hgv:=h.eq
 subst hgv
 obtain ⟨sa,sc,rfl,hsn,_⟩:=hs
 obtain ⟨n60,s60,p120⟩:=valid_few hV
 obtain ⟨w0,hw0⟩:∃ w0,w0=(w.alloc (.cells #[tv,ov,.slice sa G.sorts.length sc,pv,.int .i64 G.start] 27)).alloc (.cells #[.func (.func 86) #[] #[]] 138):=⟨_,rfl⟩
 have hB0:Below w.heap.size w w0:=by rw [hw0]; exact ((Below.refl _ _).alloc (Nat.le_refl _) _).alloc (by simp) _
 have b1:w0.heap[w.heap.size]?=some (.cells #[tv,ov,.slice sa G.sorts.length sc,pv,.int .i64 G.start] 27):=by
  rw [hw0]; exact (Below.heap_alloc _ _ _ (by simp)).trans (new_block w _)
 have b2:w0.heap[w.heap.size + 1]?=some (.cells #[.func (.func 86) #[] #[]] 138):=by
  rw [hw0]
  have:=new_block (w.alloc (.cells #[tv,ov,.slice sa G.sorts.length sc,pv,.int .i64 G.start] 27)) (.cells #[.func (.func 86) #[] #[]] 138)
  rwa [World.size_alloc] at this
 have hG:=h.mono hB0
 have kv:=Valid_any hG
 rw [hV] at kv
 have s0:=hB0.size
 have q2:=cell_of_block b1 2
 have q3:=cell_of_block b1 3
 have q4:=cell_of_block b2 0
 simp only [List.getElem?_toArray,List.getElem?_cons_zero,List.getElem?_cons_succ] at q2 q3 q4
 generalize hns:G.sorts.length=ns at *
 go_enter Tryz.func73,Tryz.ntmps73
 go_wp2_with fail
 rw [<-hw0]
 clear hw0
 refine kv.mono ?_
 rintro e w1 ⟨rfl,hB1⟩
 replace q2:=cell_below hB1 q2
 have km:=made_bools ns (by omega)
 have i0:(0:Int)<=(ns:Int):=by omega
 have i1:(ns:Int)<=60:=by omega
 obtain ⟨w3,hw3⟩:∃ w3,w3=(w1.alloc (.cells (Array.replicate ns (.bool false)) 4)).alloc (.cells #[.slice (some ⟨w1.heap.size,0,none⟩) ns ns] 75):=⟨_,rfl⟩
 have hB3:Below w1.heap.size w1 w3:=by rw [hw3]; exact ((Below.refl _ _).alloc (Nat.le_refl _) _).alloc (by simp) _
 have c1:w3.heap[w1.heap.size]?=some (.cells ((List.replicate ns false).map Value.bool).toArray 4):=by
  rw [hw3,show ((List.replicate ns false).map Value.bool).toArray=Array.replicate ns (.bool false) by simp]; exact (Below.heap_alloc _ _ _ (by simp)).trans (new_block w1 _)
 have c2:w3.heap[w1.heap.size + 1]?=some (.cells #[.slice (some ⟨w1.heap.size,0,none⟩) ns ns] 75):=by
  rw [hw3]
  have:=new_block (w1.alloc (.cells (Array.replicate ns (.bool false)) 4)) (.cells #[.slice (some ⟨w1.heap.size,0,none⟩) ns ns] 75)
  rwa [World.size_alloc] at this
 have s1:=hB1.size
 have kg:=growE (W:=w3) (Bg:=w.heap.size) (Bi:=w.heap.size + 1) (Be:=w1.heap.size + 1) (lb:=w1.heap.size) hG hV q3 q4 (hB1.trans (hB3.mono s1)) (by rw [hns]; exact c2) (by rw [hns]; exact c1) s1
 rw [hns] at kg
 have KG:=hid kg
 clear kg c1 c2 hG kv hV
 go_wp2_with fail
 rw [<-hw3]
 clear hw3
 refine KG.out.mono ?_
 rintro e w4 ⟨rfl,L,hL,hlb,hF⟩
 go_wp2
 go_ret
 exact ⟨w1.heap.size,L,rfl,hL,hlb,by omega,hB0.trans ((hB1.mono s0).trans ((hB3.mono (by omega)).trans (hF.toBelow (by have:=hB3.size; omega) (by rintro k rfl; omega))))⟩
set_option maxRecDepth 100000 in
set_option maxHeartbeats 2000000 in
theorem everyL {G:GD} {gv tv ov sv pv:Value} {tf:Nat->Nat->Value} {rv:Nat->Value} {w:World} (h:GrAt w gv G tv ov sv pv tf rv) (hV:validB G=true) :
  Calls Tryz.prog 73 #[gv,.func (.func 74) #[] #[]] w fun e W' =>
   ∃ lb L,e=.returned (.slice (some ⟨lb,0,none⟩) G.sorts.length G.sorts.length)/\Least true G.prods G.sorts.length L/\W'.heap[lb]?=some (.cells (L.map Value.bool).toArray 4)/\w.heap.size<=lb/\Below w.heap.size w W':=by
 have hs:=h.sorts
 have hgv:=h.eq
 subst hgv
 obtain ⟨sa,sc,rfl,hsn,_⟩:=hs
 obtain ⟨n60,s60,p120⟩:=valid_few hV
 obtain ⟨w0,hw0⟩:∃ w0,w0=(w.alloc (.cells #[tv,ov,.slice sa G.sorts.length sc,pv,.int .i64 G.start] 27)).alloc (.cells #[.func (.func 74) #[] #[]] 138):=⟨_,rfl⟩
 have hB0:Below w.heap.size w w0:=by rw [hw0]; exact ((Below.refl _ _).alloc (Nat.le_refl _) _).alloc (by simp) _
 have b1:w0.heap[w.heap.size]?=some (.cells #[tv,ov,.slice sa G.sorts.length sc,pv,.int .i64 G.start] 27):=by
  rw [hw0]; exact (Below.heap_alloc _ _ _ (by simp)).trans (new_block w _)
 have b2:w0.heap[w.heap.size + 1]?=some (.cells #[.func (.func 74) #[] #[]] 138):=by
  rw [hw0]
  have:=new_block (w.alloc (.cells #[tv,ov,.slice sa G.sorts.length sc,pv,.int .i64 G.start] 27)) (.cells #[.func (.func 74) #[] #[]] 138)
  rwa [World.size_alloc] at this
 have hG:=h.mono hB0
 have kv:=Valid_any hG
 rw [hV] at kv
 have s0:=hB0.size
 have q2:=cell_of_block b1 2
 have q3:=cell_of_block b1 3
 have q4:=cell_of_block b2 0
 simp only [List.getElem?_toArray,List.getElem?_cons_zero,List.getElem?_cons_succ] at q2 q3 q4
 generalize hns:G.sorts.length=ns at *
 go_enter Tryz.func73,Tryz.ntmps73
 go_wp2_with fail
 rw [<-hw0]
 clear hw0
 refine kv.mono ?_
 rintro e w1 ⟨rfl,hB1⟩
 replace q2:=cell_below hB1 q2
 have km:=made_bools ns (by omega)
 have i0:(0:Int)<=(ns:Int):=by omega
 have i1:(ns:Int)<=60:=by omega
 obtain ⟨w3,hw3⟩:∃ w3,w3=(w1.alloc (.cells (Array.replicate ns (.bool false)) 4)).alloc (.cells #[.slice (some ⟨w1.heap.size,0,none⟩) ns ns] 75):=⟨_,rfl⟩
 have hB3:Below w1.heap.size w1 w3:=by rw [hw3]; exact ((Below.refl _ _).alloc (Nat.le_refl _) _).alloc (by simp) _
 have c1:w3.heap[w1.heap.size]?=some (.cells ((List.replicate ns false).map Value.bool).toArray 4):=by
  rw [hw3,show ((List.replicate ns false).map Value.bool).toArray=Array.replicate ns (.bool false) by simp]; exact (Below.heap_alloc _ _ _ (by simp)).trans (new_block w1 _)
 have c2:w3.heap[w1.heap.size + 1]?=some (.cells #[.slice (some ⟨w1.heap.size,0,none⟩) ns ns] 75):=by
  rw [hw3]
  have:=new_block (w1.alloc (.cells (Array.replicate ns (.bool false)) 4)) (.cells #[.slice (some ⟨w1.heap.size,0,none⟩) ns ns] 75)
  rwa [World.size_alloc] at this
 have s1:=hB1.size
 have kg:=growL (W:=w3) (Bg:=w.heap.size) (Bi:=w.heap.size + 1) (Be:=w1.heap.size + 1) (lb:=w1.heap.size) hG hV q3 q4 (hB1.trans (hB3.mono s1)) (by rw [hns]; exact c2) (by rw [hns]; exact c1) s1
 rw [hns] at kg
 have KG:=hid kg
 clear kg c1 c2 hG kv hV
 go_wp2_with fail
 rw [<-hw3]
 clear hw3
 refine KG.out.mono ?_
 rintro e w4 ⟨rfl,L,hL,hlb,hF⟩
 go_wp2
 go_ret
 exact ⟨w1.heap.size,L,rfl,hL,hlb,by omega,hB0.trans ((hB1.mono s0).trans ((hB3.mono (by omega)).trans (hF.toBelow (by have:=hB3.size; omega) (by rintro k rfl; omega))))⟩
theorem Empty_any {G:GD} {gv tv ov sv pv:Value} {tf:Nat->Nat->Value} {rv:Nat->Value} {w:World} (h:GrAt w gv G tv ov sv pv tf rv) (hV:validB G=true) :
  Calls Tryz.prog 43 #[gv] w fun e W' =>
   ∃ lb L,e=.returned (.slice (some ⟨lb,0,none⟩) G.sorts.length G.sorts.length)/\Least false G.prods G.sorts.length L/\W'.heap[lb]?=some (.cells (L.map Value.bool).toArray 4)/\w.heap.size<=lb/\Below w.heap.size w W':=by
 have hgv:=h.eq
 subst hgv
 have k:=hid fun (w':World) (hb:Below w.heap.size w w')=>everyE (h.mono hb) hV
 clear h hV
 generalize G.sorts.length=n at *
 generalize G.prods=ps at *
 generalize G.start=st at *
 go_enter Tryz.func43,Tryz.ntmps43
 go_wp2_with fail
 have hb:=(Below.refl w.heap.size w).alloc (Nat.le_refl _) (.cells #[tv,ov,sv,pv,.int .i64 st] 27)
 refine (k.out _ hb).mono ?_
 rintro e w1 ⟨lb,L,rfl,h1,h2,h3,h4⟩
 go_wp2
 go_ret
 exact ⟨lb,L,rfl,h1,h2,Nat.le_trans hb.size h3,hb.trans (h4.mono hb.size)⟩
theorem Lives_any {G:GD} {gv tv ov sv pv:Value} {tf:Nat->Nat->Value} {rv:Nat->Value} {w:World} (h:GrAt w gv G tv ov sv pv tf rv) (hV:validB G=true) :
  Calls Tryz.prog 32 #[gv] w fun e W' =>
   ∃ lb L,e=.returned (.slice (some ⟨lb,0,none⟩) G.sorts.length G.sorts.length)/\Least true G.prods G.sorts.length L/\W'.heap[lb]?=some (.cells (L.map Value.bool).toArray 4)/\w.heap.size<=lb/\Below w.heap.size w W':=by
 have hgv:=h.eq
 subst hgv
 have k:=hid fun (w':World) (hb:Below w.heap.size w w')=>everyL (h.mono hb) hV
 clear h hV
 generalize G.sorts.length=n at *
 generalize G.prods=ps at *
 generalize G.start=st at *
 go_enter Tryz.func32,Tryz.ntmps32
 go_wp2_with fail
 have hb:=(Below.refl w.heap.size w).alloc (Nat.le_refl _) (.cells #[tv,ov,sv,pv,.int .i64 st] 27)
 refine (k.out _ hb).mono ?_
 rintro e w1 ⟨lb,L,rfl,h1,h2,h3,h4⟩
 go_wp2
 go_ret
 exact ⟨lb,L,rfl,h1,h2,Nat.le_trans hb.size h3,hb.trans (h4.mono hb.size)⟩
abbrev sets (F:List Nat):Array Value:=(F.map u64).toArray
abbrev rowsV (nt eb fb n:Nat):Value:=.agg #[.int .i64 (nt:Int),.slice (some ⟨eb,0,none⟩) n n,.slice (some ⟨fb,0,none⟩) n n]
theorem cell_sets {W:World} {fb:Nat} {F:List Nat} (h:W.heap[fb]?=some (.cells (sets F) 69)) {i:Nat} (hi:i < F.length):W.cell? ⟨fb,i,none⟩=some (u64 (F.getD i 0)):=by
 rw [cell_of_block h]; simp [gdQ,hi]
theorem cell_bools {W:World} {fb:Nat} {F:List Bool} (h:W.heap[fb]?=some (.cells (F.map Value.bool).toArray 4)) {i:Nat} (hi:i < F.length):W.cell? ⟨fb,i,none⟩=some (.bool (F.getD i false)):=by
 rw [cell_of_block h]; simp [gdQ,hi]
theorem heap_keep {W W':World} (h:Below W.heap.size W W') {k:Nat} {o:Obj} (ho:W.heap[k]?=some o):W'.heap[k]?=some o:=
 (h.block k (ltQ ho)).trans ho
set_option maxRecDepth 100000 in
set_option maxHeartbeats 2000000 in
theorem of_any {W:World} {eb fb n nt:Nat} {E:List Bool} {F:List Nat} {l:List Int} {lv:Value} {b:Nat} (hE:W.heap[eb]?=some (.cells (E.map Value.bool).toArray 4)) (hF:W.heap[fb]?=some (.cells (sets F) 69))
  (hEl:E.length=n) (hFl:F.length=n) (hFt:∀ x ∈ F,x < top) (hb:b < top) (hl:IntsAt W lv l) :
  Calls Tryz.prog 68 #[rowsV nt eb fb n,lv,u64 b] W fun e W'=>e=.returned (u64 (ofRow nt E F l b))/\Below W.heap.size W W':=by
 obtain ⟨W1,hW1⟩:∃ W1,W1=W.alloc (.cells #[.int .i64 (nt:Int),.slice (some ⟨eb,0,none⟩) n n,.slice (some ⟨fb,0,none⟩) n n] 130):=⟨_,rfl⟩
 have hB:Below W.heap.size W W1:=by rw [hW1]; exact (Below.refl _ _).alloc (Nat.le_refl _) _
 have c0:W1.cell? ⟨W.heap.size,0,none⟩=some (.int .i64 (nt:Int)):=by rw [hW1,World.cell?_alloc_mark]; rfl
 have c1:W1.cell? ⟨W.heap.size,1,none⟩=some (.slice (some ⟨eb,0,none⟩) n n):=by rw [hW1,World.cell?_alloc_mark]; rfl
 have c2:W1.cell? ⟨W.heap.size,2,none⟩=some (.slice (some ⟨fb,0,none⟩) n n):=by rw [hW1,World.cell?_alloc_mark]; rfl
 replace hE:=hid (heap_keep hB hE)
 replace hF:=hid (heap_keep hB hF)
 obtain ⟨⟨la,lc,rfl,hln,hlc⟩,hlr⟩:=hl.mono hB
 clear hl
 have hL:=ofRow_lt nt E hFt l hb
 have ku:=hid (fun (a c:Nat) ha hc w=>Union_any a c ha hc w)
 have kw:=hid (fun (a:Nat) (s:Int) ha w=>With_any a s ha w)
 have hR0:Hid (0 ||| ofRow nt E F l b=ofRow nt E F l b):=Nat.zero_or _
 generalize hres:ofRow nt E F l b=R at *
 generalize hll:l.length=ll at *
 have HM:Hid (∀ k,k < ll->-9223372036854775808<=l.getD k 0/\l.getD k 0<=9223372036854775807):=fun k hk=>hlr _ (mem_getD (by omega))
 have HD:Hid (∀ k,k < ll->l.drop k=l.getD k 0 :: l.drop (k + 1)):=fun k hk=>by
  rw [List.drop_eq_getElem_cons (by omega),gdQ,geQ (by omega)]; rfl
 clear hlr
 go_enter Tryz.func68,Tryz.ntmps68
 go_wp2_with fail
 rw [<-hW1]
 clear hW1
 go_loop [7,12] (fun o i=>∃ (k a:Nat),k<=ll/\i=.int .i64 (k:Int)/\o=u64 a/\a < top/\a ||| ofRow nt E F (l.drop k) b=R) (fun _ i=>ll - (RowKit.intOf i).toNat)
 case atStart=>exact ⟨0,0,by omega,rfl,rfl,by decide,by rw [List.drop_zero,hres]; exact hR0.out⟩
 case round =>
  obtain ⟨k,a,hk,rfl,rfl,ha,hr⟩:=hrel
  by_cases hlt:k < ll
  ·obtain ⟨lb,lo,rfl,hcc⟩:=hlc (by omega)
   have g1:=hcc k hlt
   obtain ⟨m1,m2⟩:=HM.out k hlt
   rw [HD.out k hlt] at hr
   have hof:ofRow nt E F (l.getD k 0 :: l.drop (k + 1)) b=if 0<=l.getD k 0 then (if l.getD k 0 < nt then bitN (l.getD k 0) else 0) else if (F.length:Int)<=-1 - l.getD k 0 then 0 else
    F.getD (-1 - l.getD k 0).toNat 0 ||| (if E.getD (-1 - l.getD k 0).toNat false=true then ofRow nt E F (l.drop (k + 1)) b else 0):=rfl
   rw [hof] at hr
   clear hof hcc
   have i0:(0:Int)<=(k:Int):=by omega
   have i1:(k:Int) < (ll:Int):=by omega
   generalize hrest:ofRow nt E F (l.drop (k + 1)) b=rest at *
   generalize l.getD k 0=s at *
   by_cases hs0:0<=s
   ·rw [if_pos hs0] at hr
    by_cases hst:s < nt
    ·rw [if_pos hst] at hr
     have HR:=hid hr
     clear hr
     go_wp2_with fail
     refine (kw.out a s ha _).mono ?_
     rintro e w' ⟨rfl,rfl⟩
     go_wp2
     go_ret
     exact ⟨by rw [<-HR.out] <;> rfl,hB⟩
    ·rw [if_neg hst,Nat.or_zero] at hr
     have HR:=hid hr
     clear hr
     go_wp2
     go_ret
     exact ⟨by rw [<-HR.out] <;> rfl,hB⟩
   ·rw [if_neg hs0,hFl] at hr
    have hs1:s < 0:=by omega
    have i5:IntKind.i64.wrap (-1 - s)=-1 - s:=by rw [IntKind.wrap_i64]; omega
    by_cases hsn:(n:Int)<=-1 - s
    ·rw [if_pos hsn,Nat.or_zero] at hr
     have HR:=hid hr
     clear hr
     go_wp2
     go_ret
     exact ⟨by rw [<-HR.out] <;> rfl,hB⟩
    ·rw [if_neg hsn] at hr
     have j0:0<=-1 - s:=by omega
     have j1:-1 - s < n:=by omega
     have g2:=cell_sets hF.out (i:=(-1 - s).toNat) (by omega)
     have g3:=cell_bools hE.out (i:=(-1 - s).toNat) (by omega)
     have hft:=getD_lt hFt (-1 - s).toNat
     generalize F.getD (-1 - s).toNat 0=f at *
     generalize E.getD (-1 - s).toNat false=eb at *
     cases eb
     ·rw [if_neg (by simp),Nat.or_zero] at hr
      have HR:=hid hr
      clear hr
      go_wp2_with fail
      refine (ku.out a f ha hft _).mono ?_
      rintro e w' ⟨rfl,rfl⟩
      go_wp2
      go_ret
      exact ⟨by rw [<-HR.out] <;> rfl,hB⟩
     ·rw [if_pos rfl] at hr
      have HR:Hid ((a ||| f) ||| rest=R):=by rw [Nat.or_assoc]; exact hr
      have hor:=or_lt ha hft
      clear hr
      go_wp2_with fail
      refine (ku.out a f ha hft _).mono ?_
      rintro e w' ⟨rfl,rfl⟩
      go_wp2
      exact ⟨⟨k + 1,a ||| f,by omega,by go_num,rfl,hor,by rw [hrest]; exact HR.out⟩,by simp [RowKit.intOf]; omega⟩
  ·have hkk:k=ll:=by omega
   have hd:l.drop k=[]:=List.drop_eq_nil_of_le (by omega)
   rw [hd] at hr
   have hr2:Hid (a ||| b=R):=hr
   clear hr hd
   have i1:¬ ((k:Int) < (ll:Int)):=by omega
   go_wp2_with fail
   refine (ku.out a b ha hb _).mono ?_
   rintro e w' ⟨rfl,rfl⟩
   go_wp2
   go_ret
   exact ⟨by rw [<-hr2.out] <;> rfl,hB⟩
structure GStS (W:World) (lb Bl Bj Bc n:Nat) (L:List Nat) (c:Bool):Prop where
 list:W.heap[lb]?=some (.cells (sets L) 69)
 var:W.heap[Bl]?=some (.cells #[.slice (some ⟨lb,0,none⟩) n n] 46)
 join:W.heap[Bj]?=some (.cells #[.func (.func 70) #[] #[]] 128)
 chg:W.heap[Bc]?=some (.cells #[.bool c] 4)
 len:L.length=n
 ne:lb ≠ Bc
theorem GStS.keep {W W':World} {lb Bl Bj Bc n:Nat} {L:List Nat} {c:Bool} (h:GStS W lb Bl Bj Bc n L c) (hb:Below W.heap.size W W'):GStS W' lb Bl Bj Bc n L c:=
 ⟨heap_keep hb h.list,heap_keep hb h.var,heap_keep hb h.join,heap_keep hb h.chg,h.len,h.ne⟩
theorem union_is (a b:Nat) (ha:a < top) (hb:b < top) (w:World):Calls Tryz.prog 70 #[u64 a,u64 b] w fun e w'=>e=.returned (u64 (a ||| b))/\w'=w:=
 (Union_any a b ha hb w).mono fun _ _ ⟨h1,h2⟩=>⟨h1,h2.symm⟩
set_option maxRecDepth 100000 in
set_option maxHeartbeats 1000000 in
theorem moreS_any {W:World} {lb Bl Bj Bc n:Nat} {L:List Nat} {c:Bool} (h:GStS W lb Bl Bj Bc n L c) (i:Nat) (hi:i < n) (x:Nat) (hx:x < top) (hL:∀ x ∈ L,x < top) :
  Calls Tryz.prog 113 #[.int .i64 (i:Int),u64 x,.pointer (some ⟨Bj,0,none⟩),.pointer (some ⟨Bl,0,none⟩),.pointer (some ⟨Bc,0,none⟩)] W fun e W' =>
   (∃ v,e=.returned v)/\GStS W' lb Bl Bj Bc n (L.set i (L.getD i 0 ||| x)) (c || ((L.getD i 0 ||| x) != L.getD i 0))/\Far (fun k=>k=lb\/k=Bc) W W':=by
 have hlen:=h.len
 have c1:=cell_sets h.list (i:=i) (by omega)
 have c2:=cell_of_block h.var 0
 have c3:=cell_of_block h.join 0
 have c4:=cell_of_block h.chg 0
 have f1:=unfrozen_of_block h.list i
 have f4:=unfrozen_of_block h.chg 0
 simp only [List.getElem?_toArray,List.getElem?_cons_zero] at c2 c3 c4
 have hne:=h.ne
 have fs:∀ m v,((W.drewN m).setCell {block:=lb,off:=i} v).cell? {block:=Bc,off:=0}=some (.bool c):=fun m v =>
  (World.cell?_setCell_far _ _ _ _ hne).trans c4
 have hyt:=getD_lt hL i
 have ke:=hid fun w=>union_is (L.getD i 0) x hyt hx w
 have hset0:L.set i (L.getD i 0)=L:=setS_same
 generalize hy:L.getD i 0=y at *
 generalize hz:y ||| x=z at *
 have i0:(0:Int)<=(i:Int):=by omega
 have i1:(i:Int) < (n:Int):=by omega
 have H:=hid h
 have HL:=hid hL
 clear h hL hz
 by_cases hxy:z=y
 ·subst hxy
  rw [hset0,bne_self_eq_false,Bool.or_false]
  go_enter Tryz.func113,Tryz.ntmps113
  go_wp2_with fail
  go_quiet ((go_at_call 70; exact Calls.quiet_of_same (ke.out _)))
  go_wp2
  go_end0
  exact ⟨⟨_,rfl⟩,⟨H.out.list,H.out.var,H.out.join,H.out.chg,H.out.len,H.out.ne⟩,(Far.refl _ _).drewN nq⟩
 ·have hb1:((z:Int) != (y:Int))=true:=by rw [bne_iff_ne]; omega
  rw [bne_iff_ne.2 hxy,Bool.or_true]
  go_enter Tryz.func113,Tryz.ntmps113
  go_wp2_with fail
  go_quiet ((go_at_call 70; exact Calls.quiet_of_same (ke.out _)))
  go_wp2
  go_end0
  have hst:GStS (((W.drewN nq).setCell {block:=lb,off:=i} (u64 z)).setCell {block:=Bc,off:=0} (Value.bool true)) lb Bl Bj Bc n (L.set i z) true:=by
   obtain ⟨h1,h2,h3,h4,h5,h6⟩:=H.out
   have hl:((W.drewN nq).setCell {block:=lb,off:=i} (u64 z)).heap[lb]?=some (.cells (sets (L.set i z)) 69):=by
    have:=block_setCell (w:=W.drewN nq) (i:=i) h1 (u64 z)
    rw [this]
    simp [sets,List.map_set]
   have far:∀ k,k ≠ lb->k ≠ Bc->(((W.drewN nq).setCell {block:=lb,off:=i} (u64 z)).setCell {block:=Bc,off:=0} (Value.bool true)).heap[k]?=W.heap[k]?:=fun k e1 e2 =>
    (Below.heap_setCell _ _ _ _ e2).trans (Below.heap_setCell _ _ _ _ e1)
   have n1:Bl ≠ lb:=fun e=>by rw [e,h1] at h2; simp at h2
   have n2:Bl ≠ Bc:=fun e=>by rw [e,h4] at h2; simp at h2
   have n3:Bj ≠ lb:=fun e=>by rw [e,h1] at h3; simp at h3
   have n4:Bj ≠ Bc:=fun e=>by rw [e,h4] at h3; simp at h3
   refine ⟨?_,?_,?_,?_,by simp [h5],h6⟩
   ·exact (Below.heap_setCell _ _ _ _ h6).trans hl
   ·exact (far _ n1 n2).trans h2
   ·exact (far _ n3 n4).trans h3
   ·have h4':((W.drewN nq).setCell {block:=lb,off:=i} (u64 z)).heap[Bc]?=some (.cells #[.bool c] 4):=(Below.heap_setCell _ _ _ _ (Ne.symm h6)).trans h4
    have:=block_setCell (i:=0) h4' (Value.bool true)
    rw [this]
    simp
  exact ⟨⟨_,rfl⟩,hst,(((Far.refl _ _).drewN nq).set (.inl rfl) _).set (.inr rfl) _⟩
def roomV:Value->Nat
 | .int _ n=>top - n.toNat
 | _=>0
def rooms:Option Obj->Nat
 | some (.cells cs _ _)=>(cs.toList.map roomV).sum
 | _=>0
theorem rooms_list (L:List Nat) (t:TypeId) (fr:Nat × Nat):rooms (some (.cells (sets L) t fr))=room L:=by
 show ((L.map u64).map roomV).sum=(L.map fun a=>top - a).sum
 rw [List.map_map]
 rfl
set_option maxRecDepth 100000 in
set_option maxHeartbeats 2000000 in
theorem growS {W:World} {lb n tf:Nat} {caps:Array Value} {evs:List Ev} (eg:∀ args w,(callFunc tf args).run Tryz.prog w=.ok (.enter tf args) w) (hl:W.heap[lb]?=some (.cells (sets (List.replicate n 0)) 69))
  (tell:Hid (∀ (W':World) (Bl Bj Bc:Nat) (L:List Nat),Far (fun k=>k=lb) W W'->GStS W' lb Bl Bj Bc n L false->(∀ x ∈ L,x < top)->W.heap.size<=Bc ->
   Calls Tryz.prog tf (#[.func (.func 113) #[] #[.pointer (some ⟨Bj,0,none⟩),.pointer (some ⟨Bl,0,none⟩),.pointer (some ⟨Bc,0,none⟩)]] ++ caps) W' fun e W'' =>
    (∃ v,e=.returned v)/\∃ L' c,GStS W'' lb Bl Bj Bc n L' c/\Far (fun k=>k=lb\/k=Bc) W' W''/\PassedS evs evs L L' c)) :
  Calls Tryz.prog 69 #[.slice (some ⟨lb,0,none⟩) n n,.func (.func 70) #[] #[],.func (.func tf) #[] caps] W fun e W' =>
   e=.returned (.slice (some ⟨lb,0,none⟩) n n)/\∃ L,LeastS evs n L/\W'.heap[lb]?=some (.cells (sets L) 69)/\Far (fun k=>k=lb) W W':=by
 have hlb:lb < W.heap.size:=(ltQ hl)
 go_enter Tryz.func69,Tryz.ntmps69
 go_wp2
 obtain ⟨W2,hW2⟩:∃ W2,W2=(W.alloc (.cells #[.slice (some ⟨lb,0,none⟩) n n] 46)).alloc (.cells #[.func (.func 70) #[] #[]] 128):=⟨_,rfl⟩
 have hB2:Below W.heap.size W W2:=by rw [hW2]; exact ((Below.refl _ _).alloc (Nat.le_refl _) _).alloc (by simp) _
 have b1:W2.heap[W.heap.size]?=some (.cells #[.slice (some ⟨lb,0,none⟩) n n] 46):=by
  rw [hW2]; exact (Below.heap_alloc _ _ _ (by simp)).trans (new_block W _)
 have b2:W2.heap[W.heap.size + 1]?=some (.cells #[.func (.func 70) #[] #[]] 128):=by
  rw [hW2]
  have:=new_block (W.alloc (.cells #[.slice (some ⟨lb,0,none⟩) n n] 46)) (.cells #[.func (.func 70) #[] #[]] 128)
  rwa [World.size_alloc] at this
 have b3:=(hB2.block lb hlb).trans hl
 have s2:=hB2.size
 rw [<-hW2]
 clear hW2
 have hbl:W.heap.size ≠ lb:=by omega
 generalize hBl:W.heap.size=Bl at *
 refine wp_scope_label (fun a' w'=>∃ (u7 u8 u9 u10 u11 u12:Value),a'={tmps:=#[.slice (some ⟨lb,0,none⟩) n n,.func (.func 70) #[] #[],.func (.func tf) #[] caps,.pointer (some ⟨Bl,0,none⟩),.pointer (some ⟨Bl + 1,0,none⟩),undef,.slice none 0 0,u7,u8,u9,u10,u11,u12],defers:=[]} /\
   ∃ L,w'.heap[lb]?=some (.cells (sets L) 69)/\L.length=n/\w'.heap[Bl]?=some (.cells #[.slice (some ⟨lb,0,none⟩) n n] 46)/\w'.heap[Bl + 1]?=some (.cells #[.func (.func 70) #[] #[]] 128) /\
    ReachS evs (List.replicate n 0) L/\(∀ x ∈ L,x < top)/\Far (fun k=>k=lb) W w')
  (fun _ w'=>rooms w'.heap[lb]?) ?_ ?_
 ·exact ⟨_,_,_,_,_,_,rfl,_,b3,by simp,b1,b2,.refl,by (intro x hx; rw [List.eq_of_mem_replicate hx]; decide),(Far.ofBelow (by rw [hBl]; exact hB2))⟩
 ·clear b1 b2 b3 s2 hB2 hl
  rintro a' w' ⟨u7,u8,u9,u10,u11,u12,rfl,L,b3,hL,b1,b2,hR,hLt,hF⟩
  have hw2:=hF.size
  obtain ⟨w1,hw1⟩:∃ w1,w1=w'.alloc (.cells #[.bool false] 4):=⟨_,rfl⟩
  have hB1:Below w'.heap.size w' w1:=by rw [hw1]; exact (Below.refl _ _).alloc (Nat.le_refl _) _
  have kp:∀ {b:Nat} {o:Obj},w'.heap[b]?=some o->w1.heap[b]?=some o:=fun ho=>(hB1.block _ (ltQ ho)).trans ho
  have c4:w1.heap[w'.heap.size]?=some (.cells #[.bool false] 4):=by rw [hw1]; exact new_block w' _
  have hlt:=(ltQ b3)
  have hW1:Far (fun k=>k=lb) W w1:=hF.on (Far.ofBelow (S:=fun _=>False) hB1) (fun i h=>h.elim)
  have HP:=hid (tell.out w1 Bl (Bl + 1) w'.heap.size L hW1 ⟨kp b3,kp b1,kp b2,c4,hL,by omega⟩ hLt (by omega))
  have fl:=rooms_list L 69 (0,0)
  have HB:=hid b3
  have HB1:=hid (kp b3)
  have HR:=hid hR
  have hbl2:=(ltQ b1)
  have hbl3:=(ltQ b2)
  clear hR b1 b2 b3 c4 hB1 hL
  go_wp2_with fail
  rw [<-hw1]
  clear hw1
  refine HP.out.mono ?_
  rintro e w2 ⟨⟨v,rfl⟩,L',c,hS,hFF,hPa⟩
  have d1:=cell_of_block hS.chg 0
  have d2:=cell_of_block hS.var 0
  simp only [List.getElem?_toArray,List.getElem?_cons_zero] at d1 d2
  have hF2:Far (fun k=>k=lb) W w2:=hW1.on hFF (by
   rintro i (rfl | rfl)
   ·exact .inl rfl
   ·right; have:=hF.size; omega)
  cases c
  ·obtain ⟨rfl,hcl⟩:=passedS_closed hPa
   go_wp2
   simp only [Exit.jump]
   go_ret
   exact ⟨rfl,_,⟨HR.out,hcl,hLt⟩,hS.list,hF2⟩
  ·go_wp2
   go_step3
   refine ⟨rfl,⟨_,_,_,_,_,_,rfl,L',hS.list,hS.len,hS.var,hS.join,reachS_trans HR.out hPa.1,hPa.2.2.1,hF2⟩,?_⟩
   rw [hS.list,HB.out,rooms_list,rooms_list]
   exact hPa.2.2.2.2.1 rfl
end Go.Proofs.YticmnfmijdgmbaaGreatDoor.S13
