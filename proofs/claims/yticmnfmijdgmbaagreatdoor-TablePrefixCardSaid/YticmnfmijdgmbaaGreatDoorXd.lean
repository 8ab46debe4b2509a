/- One pass over a grammar's productions, that tells with what sorts begin. -/
import Derived.Test.YticmnfmijdgmbaaGreatDoorQHv
import Derived.Deep.DeepCutAuto
import Derived.Laws.NewBlocks
import Derived.Test.YticmnfmijdgmbaaGreatDoorQGg
import Derived.Test.YticmnfmijdgmbaaGreatDoorGa
import Derived.Test.YticmnfmijdgmbaaGreatDoorXc
set_option linter.unusedVariables false
set_option linter.unusedSimpArgs false
namespace Go.Proofs.YticmnfmijdgmbaaGreatDoor.S13
open Go Go.RowKit Go.Lib Go.Joins
def evF (nt:Nat) (E:List Bool) (ps:List PD):List Ev:=ps.map fun p=>(p.sort.toNat,fun L=>ofRow nt E L p.rs 0)
theorem below_undrew {w w':World} (h:Below w.drew.heap.size w.drew w'):Below w.heap.size w w':=⟨h.os,h.tape,h.output,h.size,h.block⟩
theorem evF_take {nt:Nat} {E:List Bool} {ps:List PD} {j:Nat} (h:j < ps.length):(evF nt E ps).take (j + 1)=(evF nt E ps).take j ++ [((ps.getD j default).sort.toNat,fun L=>ofRow nt E L (ps.getD j default).rs 0)]:=by
 unfold evF
 rw [<-List.map_take,List.take_add_one,List.map_append,List.map_take,gdQ,geQ h]
 rfl
set_option maxRecDepth 100000 in
set_option maxHeartbeats 4000000 in
theorem passF {G:GD} {gv tv ov sv pv:Value} {tf:Nat->Nat->Value} {rv:Nat->Value} {w0 W:World} {Bg Br eb lb Bl Bj Bc:Nat} {E:List Bool} {L:List Nat} (hG:GrAt w0 gv G tv ov sv pv tf rv) (hV:validB G=true)
  (hbox:w0.cell? ⟨Bg,3,none⟩=some pv) (hE:W.heap[eb]?=some (.cells (E.map Value.bool).toArray 4)) (nE:¬ (eb=lb\/eb=Bc)) (hEl:E.length=G.sorts.length) (h0:Below w0.heap.size w0 W)
  (hBr:W.heap[Br]?=some (.cells #[.int .i64 (G.terms.length:Int),.slice (some ⟨eb,0,none⟩) G.sorts.length G.sorts.length,.slice (some ⟨lb,0,none⟩) G.sorts.length G.sorts.length] 130))
  (hS:GStS W lb Bl Bj Bc G.sorts.length L false) (hL:∀ x ∈ L,x < top) (g1:w0.heap.size<=lb) (g2:w0.heap.size<=Bc) :
  Calls Tryz.prog 112 #[.func (.func 113) #[] #[.pointer (some ⟨Bj,0,none⟩),.pointer (some ⟨Bl,0,none⟩),.pointer (some ⟨Bc,0,none⟩)],.pointer (some ⟨Bg,0,none⟩),.pointer (some ⟨Br,0,none⟩)] W fun e W' =>
   (∃ v,e=.returned v)/\∃ L' c,GStS W' lb Bl Bj Bc G.sorts.length L' c/\Far (fun k=>k=lb\/k=Bc) W W'/\PassedS (evF G.terms.length E G.prods) (evF G.terms.length E G.prods) L L' c:=by
 have hp:=hG.prods
 obtain ⟨pa,pc,rfl,hpn,hp⟩:=hp
 have HV:=hid hV
 obtain ⟨n60,s60,p120⟩:=valid_few hV
 generalize hnp:G.prods.length=np at *
 generalize hns:G.sorts.length=ns at *
 generalize hnt:G.terms.length=nt at *
 have HS0:=hid hS
 have hb3:=cell_below h0 hbox
 have hlen:=hS.len
 clear hV
 go_enter Tryz.func112,Tryz.ntmps112
 go_wp2_with fail
 go_loopw [9] (fun i wr=>∃ (j:Nat) (Lj:List Nat) (c:Bool),j<=np/\i=.int .i64 (j:Int)/\GStS wr lb Bl Bj Bc ns Lj c/\Far (fun k=>k=lb\/k=Bc) W wr/\PassedS (evF nt E G.prods) ((evF nt E G.prods).take j) L Lj c) (fun i _=>np - (RowKit.intOf i).toNat)
 case atStart=>exact ⟨0,L,false,by omega,rfl,hS,Far.refl _ _,by rw [List.take_zero]; exact passedS_nil _ hL⟩
 case round =>
  clear hS
  obtain ⟨j,Lj,c,hj,rfl,hS,hF,hP⟩:=hrel
  have hbw:Below w0.heap.size w0 wr:=h0.trans (hF.toBelow h0.size (by rintro k (rfl | rfl) <;> omega))
  have nB:¬ (Br=lb\/Br=Bc):=by
   have h1:=HS0.out.list
   have h2:=HS0.out.chg
   rintro (rfl | rfl)
   ·rw [hBr] at h1; simp at h1
   ·rw [hBr] at h2; simp at h2
  have hbr:=hF.heap hBr nB
  by_cases hlt:j < np
  ·obtain ⟨b,off,rfl,hc⟩:=hp (by omega)
   obtain ⟨d0,d1,d2,d3⟩:=hc j hlt
   replace d0:=cell_below hbw d0
   replace d1:=cell_below hbw d1
   replace d2:=cell_below hbw d2
   replace d3:=cell_below hbw d3
   obtain ⟨v1,v2,v3,v4⟩:=prodB_sortNat (valid_prod HV.out (k:=j) (by omega))
   rw [hns] at v2
   have hR:=(hG.rights j (by omega)).mono hbw
   have hLt:=hP.2.2.1
   have hrow:ofRow nt E Lj (G.prods.getD j default).rs 0 < top:=ofRow_lt nt E hLt _ (by decide)
   have hmem:((G.prods.getD j default).sort.toNat,fun L=>ofRow nt E L (G.prods.getD j default).rs 0) ∈ evF nt E G.prods:=
    List.mem_map.2 ⟨_,by rw [gdQ,geQ (by omega)]; exact List.getElem_mem (by omega),rfl⟩
   have hst:=passedS_step hP hmem (by rw [hlen]; simp only; omega) hrow
   rw [<-evF_take (by omega)] at hst
   simp only at hst
   clear hc hP hmem
   generalize hPP:G.prods.getD j default=P at *
   clear hPP
   obtain ⟨⟨ra,rc,hrv,hrn,hrc⟩,hri⟩:=hR
   rw [hrv] at d2
   obtain ⟨so,hso⟩:∃ so:Nat,P.sort=so:=⟨P.sort.toNat,by omega⟩
   rw [hso] at d1
   have hto:P.sort.toNat=so:=by omega
   have hstep:stepS Lj (P.sort.toNat,fun L=>ofRow nt E L P.rs 0)=Lj.set so (Lj.getD so 0 ||| ofRow nt E Lj P.rs 0):=by unfold stepS; rw [hto]
   rw [hstep,hto] at hst
   have HST:=hid hst
   have hsz:=hbw.size
   have i0:(0:Int)<=(j:Int):=by omega
   have i1:(j:Int) < (np:Int):=by omega
   have hsn:so < ns:=by omega
   obtain ⟨w2,hw2⟩:∃ w2,w2=wr.alloc (.cells #[.string P.lab,.int .i64 (so:Int),.slice ra P.rs.length rc,.int .i64 P.cls] 71):=⟨_,rfl⟩
   have hb2:Below wr.heap.size wr w2:=by rw [hw2]; exact (Below.refl _ _).alloc (Nat.le_refl _) _
   have p1:w2.cell? ⟨wr.heap.size,1,none⟩=some (.int .i64 (so:Int)):=by rw [hw2,World.cell?_alloc_mark]; rfl
   have p2:w2.cell? ⟨wr.heap.size,2,none⟩=some (.slice ra P.rs.length rc):=by rw [hw2,World.cell?_alloc_mark]; rfl
   have hS2:=hS.keep hb2
   have hF2:Far (fun k=>k=lb\/k=Bc) W w2:=hF.trans (Far.ofBelow hb2)
   have hbr2:=heap_keep hb2 hbr
   have r0:=cell_of_block hbr2 0
   have r1:=cell_of_block hbr2 1
   have r2:=cell_of_block hbr2 2
   simp only [List.getElem?_toArray,List.getElem?_cons_zero,List.getElem?_cons_succ] at r0 r1 r2
   have heb:w2.heap[eb]?=some (.cells (E.map Value.bool).toArray 4):=heap_keep hb2 (hF.heap hE nE)
   have hia:IntsAt w2 (.slice ra P.rs.length rc) P.rs:=IntsAt.mono ⟨⟨ra,rc,rfl,hrn,hrc⟩,hri⟩ hb2
   have kof:Hid (∀ (W':World),Below w2.heap.size w2 W'->Calls Tryz.prog 68 #[rowsV nt eb lb ns,.slice ra P.rs.length rc,.int .u64 0] W' fun e W''=>e=.returned (u64 (ofRow nt E Lj P.rs 0))/\Below W'.heap.size W' W''):=fun (W':World) (hb:Below w2.heap.size w2 W')=>of_any (b:=0) (nt:=nt) (heap_keep hb heb) (heap_keep hb hS2.list) hEl hS2.len hLt (by decide) (hia.mono hb)
   have kmo:=hid fun (W':World) (hb:Below w2.heap.size w2 W')=>moreS_any (hS2.keep hb) so hsn _ hrow hLt
   generalize hrow2:ofRow nt E Lj P.rs 0=x at *
   clear hstep hto hrv hso v1 v2 hst hia heb hrow hrow2 hLt hri hrc hrn v3 v4
   generalize P.rs.length=rl at *
   have hlb:=(ltQ hS.list)
   have hbc:=(ltQ hS.chg)
   go_wp2_with fail
   rw [<-hw2]
   clear hw2
   generalize hpb:wr.heap.size=pb at *
   have nP:¬ (pb=lb\/pb=Bc):=by omega
   go_region_held3 (fun w'=>w'.cell? ⟨pb,1,none⟩=some (.int .i64 (so:Int))/\w'.cell? ⟨pb,2,none⟩=some (.slice ra rl rc)/\w'.cell? ⟨Br,0,none⟩=some (.int .i64 (nt:Int))/\w'.cell? ⟨Br,1,none⟩=some (.slice (some ⟨eb,0,none⟩) ns ns)/\w'.cell? ⟨Br,2,none⟩=some (.slice (some ⟨lb,0,none⟩) ns ns))
    (first
      | go_keep
      | (go_split_ands; refine ⟨?_,?_,?_,?_,?_⟩ <;> (apply cell_below hb5; assumption))
      | (go_split_ands; exact ⟨hF6.cell (by assumption) nP,hF6.cell (by assumption) nP,hF6.cell (by assumption) nB,hF6.cell (by assumption) nB,hF6.cell (by assumption) nB⟩))
    ((first | (go_at_call 68; first | (refine (kof.out _ (Below.refl _ _)).mono ?_; rintro e w5 ⟨rfl,hb5⟩) | (refine (kof.out _ (Below.refl _ _).drew).mono ?_; rintro e w5 ⟨rfl,hb5⟩)) | (go_at_call 113; refine (kmo.out _ (below_undrew hb5)).mono ?_; rintro e w6 ⟨⟨v,rfl⟩,hS6,hF6⟩)))
   have hFF:Far (fun k=>k=lb\/k=Bc) W w6:=by
    first
      | exact (hF2.trans (Far.ofBelow hb5)).trans hF6
      | exact (hF2.trans (Far.ofBelow (below_undrew hb5))).trans hF6
   clear hF6 hb5
   go_wp2
   exact ⟨⟨j + 1,_,_,by omega,by go_num,hS6,hFF,HST.out⟩,by simp [RowKit.intOf]; omega⟩
  ·obtain rfl:j=np:=by omega
   have hlf:(evF nt E G.prods).length=j:=by rw [<-hnp]; simp [evF]
   rw [List.take_of_length_le (by omega)] at hP
   have HP:=hid hP
   clear hP
   go_wp2
   go_end0
   exact ⟨⟨_,rfl⟩,Lj,c,hS,hF,HP.out⟩
theorem info30:(Tryz.prog.info? 69).map (fun i=>(i.zero,i.size,i.bytes))=some (some (.int .u64 0),1,8):=by kernel_rfl
theorem made_sets (n:Nat) (hn:n<=1000000) (w:World):(Instr.makeSlice 46 (.int .i64 (n:Int)) (.int .i64 (n:Int))).run Tryz.prog w=.ok (.slice (some ⟨w.heap.size,0,none⟩) n n) (w.alloc (.cells (sets (List.replicate n 0)) 69)):=by
 obtain ⟨i0,hi,hz0,hz1,hz2⟩:=info_parts info30
 have:=run_makeSlice (P:=Tryz.prog) (w:=w) 46 69 i0 (.int .u64 0) Tryz.underlying46 hi hz0 .i64 .i64 (n:Int) (n:Int) (by omega) (by omega) (by rw [hz1]; omega) (by rw [hz2]; omega) (by omega)
 rw [this,hz1]
 have e:madeCells (Value.int .u64 0).cells ((n:Int).toNat * 1)=sets (List.replicate n 0):=by
  rw [Int.toNat_natCast,Nat.mul_one]
  refine Array.ext (by simp [madeCells]) fun i h1 h2=>?_
  simp [madeCells,Value.cells,Nat.mod_one]
 rw [e,Int.toNat_natCast]
theorem heap_al {w:World} {k:Nat} {o o':Obj} (h:w.heap[k]?=some o):(w.alloc o').heap[k]?=some o:=heap_keep ((Below.refl _ _).alloc (Nat.le_refl _) _) h
theorem heap_set {w:World} {k:Nat} {o:Obj} {p:Addr} {v:Value} (h:w.heap[k]?=some o) (hne:k ≠ p.block):(w.setCell p v).heap[k]?=some o:=(Below.heap_setCell w p v k hne).trans h
theorem new_block2 (w:World) (o o':Obj):((w.alloc o).alloc o').heap[w.heap.size + 1]?=some o':=by
 have:=new_block (w.alloc o) o'
 rwa [World.size_alloc] at this
theorem heap_set3 {w:World} {b:Nat} {t:TypeId} {x0 y0 z0 x y z:Value} (h:w.heap[b]?=some (.cells #[x0,y0,z0] t)) :
  (((w.setCell ⟨b,0,none⟩ x).setCell ⟨b,1,none⟩ y).setCell ⟨b,2,none⟩ z).heap[b]?=some (.cells #[x,y,z] t):=by
 have h1:=block_setCell (i:=0) h x
 have h2:=block_setCell (i:=1) h1 y
 have h3:=block_setCell (i:=2) h2 z
 rw [h3]; simp
theorem heap_far3 {w:World} {b k:Nat} {o:Obj} {x y z:Value} (h:w.heap[k]?=some o) (hne:k ≠ b) :
  (((w.setCell ⟨b,0,none⟩ x).setCell ⟨b,1,none⟩ y).setCell ⟨b,2,none⟩ z).heap[k]?=some o:=heap_set (heap_set (heap_set h hne) hne) hne
theorem new_set3 (w:World) {b:Nat} {o:Obj} {x y z:Value} :
  ((((w.setCell ⟨b,0,none⟩ x).setCell ⟨b,1,none⟩ y).setCell ⟨b,2,none⟩ z).alloc o).heap[w.heap.size]?=some o:=by
 have:=new_block (((w.setCell ⟨b,0,none⟩ x).setCell ⟨b,1,none⟩ y).setCell ⟨b,2,none⟩ z) o
 simpa using this
theorem bcell {W w1:World} (hb:Below W.heap.size W w1):(∀ b o,b < W.heap.size->w1.cell? ⟨b,o,none⟩=W.cell? ⟨b,o,none⟩)/\(∀ b o,b < W.heap.size->w1.frozen? ⟨b,o,none⟩=W.frozen? ⟨b,o,none⟩):=
 ⟨fun b o h=>hb.cell (p:=⟨b,o,none⟩) h,fun b o h=>hb.frozen (p:=⟨b,o,none⟩) h⟩
theorem below_al {w0 w:World} (h:Below w0.heap.size w0 w) (o:Obj):Below w0.heap.size w0 (w.alloc o):=h.alloc h.size o
set_option maxRecDepth 100000 in
set_option maxHeartbeats 2000000 in
theorem newRows_any {G:GD} {gv tv ov sv pv:Value} {tf:Nat->Nat->Value} {rv:Nat->Value} {w:World} (h:GrAt w gv G tv ov sv pv tf rv) (hV:validB G=true) :
  Calls Tryz.prog 67 #[gv] w fun e W' =>
   ∃ eb fb E F,e=.returned (rowsV G.terms.length eb fb G.sorts.length)/\Least false G.prods G.sorts.length E/\LeastS (evF G.terms.length E G.prods) G.sorts.length F /\
    W'.heap[eb]?=some (.cells (E.map Value.bool).toArray 4)/\W'.heap[fb]?=some (.cells (sets F) 69)/\w.heap.size<=eb/\w.heap.size<=fb/\Below w.heap.size w W':=by
 have hs:=h.sorts
 have ht:=h.terms
 have hgv:=h.eq
 subst hgv
 obtain ⟨sa,sc,rfl,hsn,_⟩:=hs
 obtain ⟨ta,tc,rfl,htn,_⟩:=ht
 obtain ⟨n60,s60,p120⟩:=valid_few hV
 obtain ⟨w0,hw0⟩:∃ w0,w0=(w.alloc (.cells #[.slice ta G.terms.length tc,ov,.slice sa G.sorts.length sc,pv,.int .i64 G.start] 27)).alloc (.cells #[.int .i64 0,.slice none 0 0,.slice none 0 0] 130):=⟨_,rfl⟩
 have hB0:Below w.heap.size w w0:=by rw [hw0]; exact ((Below.refl _ _).alloc (Nat.le_refl _) _).alloc (by simp) _
 have b1:w0.heap[w.heap.size]?=some (.cells #[.slice ta G.terms.length tc,ov,.slice sa G.sorts.length sc,pv,.int .i64 G.start] 27):=by
  rw [hw0]; exact (Below.heap_alloc _ _ _ (by simp)).trans (new_block w _)
 have b2:w0.heap[w.heap.size + 1]?=some (.cells #[.int .i64 0,.slice none 0 0,.slice none 0 0] 130):=by
  rw [hw0]
  have:=new_block (w.alloc (.cells #[.slice ta G.terms.length tc,ov,.slice sa G.sorts.length sc,pv,.int .i64 G.start] 27)) (.cells #[.int .i64 0,.slice none 0 0,.slice none 0 0] 130)
  rwa [World.size_alloc] at this
 have hG:=h.mono hB0
 have q0:=cell_of_block b1 0
 have q1:=cell_of_block b1 1
 have q2:=cell_of_block b1 2
 have q3:=cell_of_block b1 3
 have q4:=cell_of_block b1 4
 have s0:w0.heap.size=w.heap.size + 2:=by rw [hw0]; simp
 simp only [List.getElem?_toArray,List.getElem?_cons_zero,List.getElem?_cons_succ] at q0 q1 q2 q3 q4
 have kE:Hid (∀ W',Below w0.heap.size w0 W'->Calls Tryz.prog 43 #[.agg #[.slice ta G.terms.length tc,ov,.slice sa G.sorts.length sc,pv,.int .i64 G.start]] W' fun e W'' =>
   ∃ lb L,e=.returned (.slice (some ⟨lb,0,none⟩) G.sorts.length G.sorts.length)/\Least false G.prods G.sorts.length L/\W''.heap[lb]?=some (.cells (L.map Value.bool).toArray 4)/\W'.heap.size<=lb/\Below W'.heap.size W' W''/\Below w0.heap.size w0 W''):=
  fun W' hb=>(Empty_any (hG.mono hb) hV).mono fun e W'' ⟨lb,L,h1,h2,h3,h4,h5⟩=>⟨lb,L,h1,h2,h3,h4,h5,hb.trans (h5.mono hb.size)⟩
 have km:=made_sets G.sorts.length (by omega)
 have i0:(0:Int)<=(G.sorts.length:Int):=by omega
 have HB2:=hid b2
 have HB1:=hid b1
 have S0:=hid s0
 clear b2 s0 b1
 generalize hns:G.sorts.length=ns at *
 generalize hnt:G.terms.length=nt at *
 generalize hst:G.start=st at *
 go_enter Tryz.func67,Tryz.ntmps67
 go_upto_region 1 with fail
 rw [<-hw0]
 clear hw0
 generalize hBg:w.heap.size=Bg at *
 go_cut [3] (fun s3 wx=>∃ Br eb lb E,s3=.pointer (some ⟨Br,0,none⟩)/\wx.heap[Br]?=some (.cells #[.int .i64 (nt:Int),.slice (some ⟨eb,0,none⟩) ns ns,.slice (some ⟨lb,0,none⟩) ns ns] 130) /\
  Least false G.prods ns E/\wx.heap[eb]?=some (.cells (E.map Value.bool).toArray 4)/\wx.heap[lb]?=some (.cells (sets (List.replicate ns 0)) 69)/\eb ≠ lb/\w0.heap.size<=eb/\w0.heap.size<=lb/\w0.heap.size<=Br/\Below w0.heap.size w0 wx)
 case first =>
  go_region_held3 (fun w'=>w'.cell? ⟨Bg,0,none⟩=some (.slice ta nt tc)/\w'.cell? ⟨Bg,1,none⟩=some ov/\w'.cell? ⟨Bg,2,none⟩=some (.slice sa ns sc)/\w'.cell? ⟨Bg,3,none⟩=some pv/\w'.cell? ⟨Bg,4,none⟩=some (.int .i64 st))
   ((go_split_ands; first | (refine ⟨cell_below ?_ q0,cell_below ?_ q1,cell_below ?_ q2,cell_below ?_ q3,cell_below ?_ q4⟩ <;> (repeat' (first | assumption | exact Below.refl _ _ | refine Below.drew ?_ | refine below_al ?_ _ | refine Below.setCell ?_ ?_ _ | (dsimp only; omega) | (simp; omega))); done) | (trace_state; done)))
   ((go_at_call 43; refine (kE.out _ (by (repeat' (first | assumption | exact Below.refl _ _ | refine Below.drew ?_ | refine below_al ?_ _ | refine Below.setCell ?_ ?_ _ | (dsimp only; omega) | (simp; omega))))).mono ?_; rintro e w5 ⟨eb,E,rfl,hE1,hE2,hE3,hE4,hE5⟩; obtain ⟨hc5,hf5⟩:=bcell hE4; have hz5:=hE4.size; simp at hz5; try (have hz6:w0.heap.size < w5.heap.size:=by omega); try (have hz7:w0.heap.size + 1 < w5.heap.size:=by omega)))
  ·have hl5:=(ltQ hE2)
   simp at hE3
   go_wp2_with fail
   go_meet
   refine ⟨_,eb,w5.heap.size,E,rfl,?_,hE1,?_,?_,?_,?_,?_,?_,?_⟩
   ·exact new_block2 _ _ _
   ·exact heap_al (heap_al hE2)
   ·exact heap_al (new_block _ _)
   ·omega
   ·omega
   ·omega
   ·omega
   ·exact below_al (below_al hE5 _) _
  ·have hl5:=(ltQ hE2)
   simp at hE3
   go_wp2_with fail
   go_meet
   refine ⟨_,eb,(w5.heap.size + 1),E,rfl,?_,hE1,?_,?_,?_,?_,?_,?_,?_⟩
   ·exact heap_al (new_block _ _)
   ·exact heap_al (heap_al hE2)
   ·exact new_block2 _ _ _
   ·omega
   ·omega
   ·omega
   ·omega
   ·exact below_al (below_al hE5 _) _
  ·have hl5:=(ltQ hE2)
   simp at hE3
   have hS:w5.heap[w0.heap.size]?=some (.cells (sets (List.replicate ns 0)) 69):=(hE4.block w0.heap.size (by simp)).trans (new_block w0 _)
   go_wp2_with fail
   go_meet
   refine ⟨_,eb,w0.heap.size,E,rfl,?_,hE1,?_,?_,?_,?_,?_,?_,?_⟩
   ·exact new_block _ _
   ·exact heap_al hE2
   ·exact heap_al hS
   ·omega
   ·omega
   ·omega
   ·omega
   ·exact below_al hE5 _
  ·have hl5:=(ltQ hE2)
   simp at hE3
   have hS:w5.heap[w0.heap.size]?=some (.cells (sets (List.replicate ns 0)) 69):=(hE4.block w0.heap.size (by simp; omega)).trans (heap_al (new_block w0 _))
   have hR:w5.heap[w0.heap.size + 1]?=some (.cells #[.int .i64 0,.slice none 0 0,.slice none 0 0] 130):=(hE4.block (w0.heap.size + 1) (by simp)).trans (new_block2 w0 _ _)
   go_wp2_with fail
   go_meet
   refine ⟨_,eb,w0.heap.size,E,rfl,?_,hE1,?_,?_,?_,?_,?_,?_,?_⟩
   ·exact heap_set3 hR
   ·exact heap_far3 hE2 (by omega)
   ·exact heap_far3 hS (by omega)
   ·omega
   ·omega
   ·omega
   ·omega
   ·exact ((hE5.setCell (by dsimp only; omega) _).setCell (by dsimp only; omega) _).setCell (by dsimp only; omega) _
  ·have hl5:=(ltQ hE2)
   simp at hE3
   have hR:w5.heap[w0.heap.size]?=some (.cells #[.int .i64 0,.slice none 0 0,.slice none 0 0] 130):=(hE4.block w0.heap.size (by simp)).trans (new_block w0 _)
   go_wp2_with fail
   go_meet
   refine ⟨_,eb,w5.heap.size,E,rfl,?_,hE1,?_,?_,?_,?_,?_,?_,?_⟩
   ·exact heap_al (heap_set3 hR)
   ·exact heap_al (heap_far3 hE2 (by omega))
   ·exact new_set3 _
   ·omega
   ·omega
   ·omega
   ·omega
   ·exact below_al (((hE5.setCell (by dsimp only; omega) _).setCell (by dsimp only; omega) _).setCell (by dsimp only; omega) _) _
  ·have hl5:=(ltQ hE2)
   simp at hE3
   have hS:w5.heap[w0.heap.size + 1]?=some (.cells (sets (List.replicate ns 0)) 69):=(hE4.block (w0.heap.size + 1) (by simp)).trans (new_block2 w0 _ _)
   have hR:w5.heap[w0.heap.size]?=some (.cells #[.int .i64 0,.slice none 0 0,.slice none 0 0] 130):=(hE4.block w0.heap.size (by simp; omega)).trans (heap_al (new_block w0 _))
   go_wp2_with fail
   go_meet
   refine ⟨_,eb,(w0.heap.size + 1),E,rfl,?_,hE1,?_,?_,?_,?_,?_,?_,?_⟩
   ·exact heap_set3 hR
   ·exact heap_far3 hE2 (by omega)
   ·exact heap_far3 hS (by omega)
   ·omega
   ·omega
   ·omega
   ·omega
   ·exact ((hE5.setCell (by dsimp only; omega) _).setCell (by dsimp only; omega) _).setCell (by dsimp only; omega) _
 case rest =>
  obtain ⟨Br,eb,lb,E,rfl,hBr,hE,heb,hlb,hne,g1,g2,g3,hb⟩:=hcut
  rename_i wc
  have hBl:¬ (Br=lb):=by
   rintro rfl
   rw [hBr] at hlb
   simp at hlb
  have hel:=(ltQ heb)
  have KG:=hid (growS (W:=wc) (lb:=lb) (n:=ns) (tf:=112) (caps:=#[.pointer (some ⟨Bg,0,none⟩),.pointer (some ⟨Br,0,none⟩)]) (evs:=evF nt E G.prods) (fun _ _=>rfl) hlb
   (hid fun W' Bl Bj Bc L hF hS hLt hBc=>by
    have:=passF (lb:=lb) (Bc:=Bc) (Bl:=Bl) (Bj:=Bj) (Bg:=Bg) (Br:=Br) (w0:=w0) (E:=E) (eb:=eb) hG hV q3 (hF.heap heb hne) (by rintro (h | h) <;> omega) (by rw [hE.length,hns]) (hb.trans (hF.toBelow hb.size (by rintro k rfl; exact g2))) (by rw [hns,hnt]; exact hF.heap hBr hBl) (by rw [hns]; exact hS) hLt g2 (by have:=hb.size; omega)
    rw [hns,hnt] at this
    simpa using this))
  clear kE km
  have x0:=cell_of_block hBr 2
  simp only [List.getElem?_toArray,List.getElem?_cons_zero,List.getElem?_cons_succ] at x0
  go_wp2_with fail
  refine KG.out.mono ?_
  rintro e w6 ⟨rfl,F,hF1,hF2,hF3⟩
  have d1:=hF3.heap hBr hBl
  have d2:=hF3.heap (heap_keep hb HB2.out) (by have:=S0.out; omega)
  have r0:=cell_of_block d1 0
  have r1:=cell_of_block d1 1
  have r2:=cell_of_block d1 2
  have t0:=cell_of_block d2 0
  have t1:=cell_of_block d2 1
  have t2:=cell_of_block d2 2
  simp only [List.getElem?_toArray,List.getElem?_cons_zero,List.getElem?_cons_succ] at r0 r1 r2 t0 t1 t2
  have f0:=unfrozen_of_block d2 0
  have f1:=unfrozen_of_block d2 1
  have f2:=unfrozen_of_block d2 2
  have e1:=hF3.heap heb hne
  have e2:=hF3.toBelow hb.size (by rintro k rfl; exact g2)
  have hs0:=S0.out
  have ne1:eb ≠ Bg + 1:=by omega
  have ne2:lb ≠ Bg + 1:=by omega
  have HE1:=hid (heap_far3 (b:=Bg + 1) (x:=.int .i64 (nt:Int)) (y:=.slice (some ⟨eb,0,none⟩) ns ns) (z:=.slice (some ⟨lb,0,none⟩) ns ns) e1 ne1)
  have HE2:=hid (heap_far3 (b:=Bg + 1) (x:=.int .i64 (nt:Int)) (y:=.slice (some ⟨eb,0,none⟩) ns ns) (z:=.slice (some ⟨lb,0,none⟩) ns ns) hF2 ne2)
  have S0':=hid hs0
  have hB6:Below Bg w w6:=hB0.trans ((hb.trans e2).mono (by omega))
  clear hs0 d1 d2 e1 e2
  go_wp2_with fail
  exact bodyPost_ret (v:=rowsV nt eb lb ns) (by simp [results,Tryz.results67,go_sem,t0,t1,t2]) rfl ⟨eb,lb,E,F,rfl,hE,hF1,HE1.out,HE2.out,by have:=S0'.out; omega,by have:=S0'.out; omega,by
   rw [hBg]
   exact Below.setCell (p:=⟨Bg + 1,2,none⟩) (Below.setCell (p:=⟨Bg + 1,1,none⟩) (Below.setCell (p:=⟨Bg + 1,0,none⟩) hB6 (Nat.le_succ _) _) (Nat.le_succ _) _) (Nat.le_succ _) _⟩
set_option maxRecDepth 100000 in
theorem Of_any {G:GD} {gv tv ov sv pv:Value} {tf:Nat->Nat->Value} {rv:Nat->Value} {w:World} (h:GrAt w gv G tv ov sv pv tf rv) (hV:validB G=true) {l:List Int} {lv:Value} {b:Nat} (hl:IntsAt w lv l) (hb0:b < top) :
  Calls Tryz.prog 29 #[gv,lv,u64 b] w fun e W' =>
   ∃ E F,e=.returned (u64 (ofRow G.terms.length E F l b))/\Least false G.prods G.sorts.length E/\LeastS (evF G.terms.length E G.prods) G.sorts.length F/\Below w.heap.size w W':=by
 obtain ⟨W1,B,hW1,hB,c0,c1,c2,c3,c4,hG,hb,hsz⟩:=gr_box h
 subst hB
 have kv:=Valid_any hG
 rw [hV] at kv
 have kn:=hid fun (W':World) (hb:Below W1.heap.size W1 W')=>newRows_any (hG.mono hb) hV
 have HL:=hid (hl.mono hb)
 clear hl
 have hgv:=h.eq
 subst hgv
 obtain ⟨la,lc,rfl,hln,hlc⟩:=HL.out.1
 clear hlc
 generalize hll:l.length=ll at *
 go_enter Tryz.func29,Tryz.ntmps29
 go_wp2_with fail
 rw [<-hW1]
 clear hW1
 refine kv.mono ?_
 rintro e w1 ⟨rfl,hB1⟩
 have d0:=cell_below hB1 c0
 have d1:=cell_below hB1 c1
 have d2:=cell_below hB1 c2
 have d3:=cell_below hB1 c3
 have d4:=cell_below hB1 c4
 go_wp2_with fail
 refine (kn.out _ hB1).mono ?_
 rintro e w2 ⟨eb,fb,E,F,rfl,h1,h2,h3,h4,h5,h6,h7⟩
 have ko:=hid (of_any (nt:=G.terms.length) (b:=b) h3 h4 h1.length h2.length h2.2.2 hb0 (HL.out.mono (hB1.trans (h7.mono hB1.size))))
 go_wp2_with fail
 refine ko.out.mono ?_
 rintro e w3 ⟨rfl,hB3⟩
 go_wp2_with fail
 go_ret
 exact ⟨E,F,rfl,h1,h2,hb.trans ((hB1.mono hsz).trans ((h7.mono (by have:=hB1.size; omega)).trans (hB3.mono (by have:=hB1.size; have:=h7.size; omega))))⟩
def cutV (b off n c k:Nat):Value:=.slice (if c=k then some ⟨b,off,none⟩ else some ⟨b,off + k,none⟩) (n - k) (c - k)
theorem run_cut (b off n c q:Nat) (hq:q + 1<=n) (w:World):(Instr.slice 64 (.slice (some ⟨b,off,none⟩) n c) (some (.int .i64 ((q:Int) + 1))) none none).run Tryz.prog w=.ok (cutV b off n c (q + 1)) w:=by
 rw [run_slice_l w 64 (some ⟨b,off,none⟩) n c (by kernel_rfl) .i64 _ (by omega) (by omega)]
 have e1:(sizeOf (Tryz.prog.elem 64)).run Tryz.prog w=.ok 1 w:=by kernel_rfl
 rw [e1]
 simp only [Result.andThen,sliced]
 rw [show ((q:Int) + 1).toNat=q + 1 by omega]
 unfold cutV
 by_cases h:c=q + 1 <;> simp [h,Addr.add]
theorem cut_at {w:World} {b off n c:Nat} {l:List Int} (h:∀ i,i < l.length->w.cell? ⟨b,off + i,none⟩=some (.int .i64 (l.getD i 0))) (hl:l.length=n) (hr:∀ x ∈ l,-9223372036854775808<=x/\x<=9223372036854775807) (hn:n<=9223372036854775807) (hc:n<=c) (k:Nat) :
  IntsAt w (cutV b off n c k) (l.drop k):=by
 refine ⟨⟨_,_,by unfold cutV; rw [List.length_drop,hl],by rw [List.length_drop]; omega,fun h0=>?_⟩,fun x hx=>hr x (List.mem_of_mem_drop hx)⟩
 rw [List.length_drop,hl] at h0
 refine ⟨b,off + k,by rw [if_neg (by omega)],fun i hi=>?_⟩
 rw [List.length_drop] at hi
 have:=h (k + i) (by omega)
 rw [Nat.add_assoc,this]
 simp [gdQ,List.getElem?_drop]
theorem of63 (w:World) (b:Nat) (h:w.cell? ⟨b,0,none⟩=some (.int .i64 63)):Calls Tryz.prog 31 #[.slice (some ⟨b,0,none⟩) 1 1] w fun e w'=>e=.returned (u64 (bitN 63))/\w=w':=by
 have:=Of_some b 0 1 [63] w (by decide) (fun i hi=>by
  match i,hi with
  | 0,_=>simpa using h)
 rw [show ofN [63]=bitN 63 from by decide] at this
 exact this
end Go.Proofs.YticmnfmijdgmbaaGreatDoor.S13

namespace Go.Proofs.YticmnfmijdgmbaaGreatDoor.S13
def MonoN (n:Nat) (evs:List Ev):Prop:=∀ e ∈ evs,∀ a b:List Nat,a.length=n->b.length=n->LeS a b->Sub (e.2 a) (e.2 b)
theorem reachS_leastN {evs:List Ev} {n:Nat} {a b M:List Nat} (h:ReachS evs a b) (hl:a.length=n) (hlM:M.length=n) (ha:LeS a M) (hm:MonoN n evs) (hM:ClosedS evs M):LeS b M:=by
 induction h with
 | refl=>exact ha
 | step hr hp ih =>
  rename_i L e
  intro i
  unfold stepS
  rw [gdQ,List.getElem?_set]
  split
  ·rename_i e'
   subst e'
   split
   ·exact or_sub (ih _) (sub_trans (hm _ hp _ _ (by rw [reachS_length hr,hl]) hlM ih) (hM _ hp))
   ·exact zero_sub _
  ·rw [<-gdQ]; exact ih i
theorem LeastS.leN {evs:List Ev} {n:Nat} {L M:List Nat} (h:LeastS evs n L) (hm:MonoN n evs) (hl:M.length=n) (hM:ClosedS evs M):LeS L M:=
 reachS_leastN h.1 (by simp) hl (none_leS n M) hm hM
theorem ext_leS {a b:List Nat} (hl:a.length=b.length) (h1:LeS a b) (h2:LeS b a):a=b:=by
 refine List.ext_getElem hl fun i x y=>?_
 have e:=sub_antisymm (h1 i) (h2 i)
 rw [gdQ,gdQ,geQ x,geQ y] at e
 exact e
theorem LeastS.sameN {evs:List Ev} {n:Nat} {L M:List Nat} (h:LeastS evs n L) (h2:LeastS evs n M) (hm:MonoN n evs):L=M:=
 ext_leS (by rw [h.length,h2.length]) (h.leN hm h2.length h2.2.1) (h2.leN hm h.length h.2.1)
theorem evF_mono (nt:Nat) (E:List Bool) (ps:List PD) (n:Nat):MonoN n (evF nt E ps):=by
 intro e he a b ha hb hab
 obtain ⟨p,_,rfl⟩:=List.mem_map.1 he
 exact ofRow_mono nt E hab (by rw [ha,hb]) p.rs (sub_refl 0)
def RowOk (nt ns:Nat) (l:List Int):Prop:=∀ s ∈ l,(0<=s/\s < nt)\/(s < 0/\-1 - s < ns)
theorem valid_rows {G:GD} (hV:validB G=true):∀ p ∈ G.prods,0<=p.sort/\p.sort < G.sorts.length/\RowOk G.terms.length G.sorts.length p.rs:=by
 intro p hp
 obtain ⟨k,hk,rfl⟩:=List.getElem_of_mem hp
 have:=prodB_sortNat (valid_prod hV hk)
 rw [gdQ,geQ hk] at this
 exact ⟨this.1,this.2.1,this.2.2.2⟩
open X14 (It)
theorem least_exists {k:Bool} {ps:List PD} {n:Nat} (hs:∀ p ∈ ps,p.sort.toNat < n):∃ L,Least k ps n L:=by
 have key:∀ (c:Nat) (L:List Bool),L.count false<=c->Reach k ps (List.replicate n false) L->L.length=n->∃ L',Least k ps n L':=by
  intro c
  induction c with
  | zero =>
   intro L hc hr hl
   refine ⟨L,hr,fun p hp ha=>?_⟩
   rcases step_cases k L p (by rw [hl]; exact hs p hp) with ⟨_,_,h⟩ | ⟨_,h⟩
   ·exact h ha
   ·omega
  | succ c ih =>
   intro L hc hr hl
   by_cases hcl:Closed k ps L
   ·exact ⟨L,hr,hcl⟩
   ·obtain ⟨p,hp⟩:=Classical.not_forall.1 hcl
    obtain ⟨hp1,hp2⟩:=Classical.not_imp.1 hp
    obtain ⟨hp3,hp4⟩:=Classical.not_imp.1 hp2
    rcases step_cases k L p (by rw [hl]; exact hs p hp1) with ⟨_,_,h⟩ | ⟨_,h⟩
    ·exact absurd (h hp3) hp4
    ·exact ih _ (by omega) (.step hr hp1) (by rw [stepB_length]; exact hl)
 exact key _ _ (Nat.le_refl _) .refl (by simp)
theorem leastS_exists {evs:List Ev} {n:Nat} (h1:∀ e ∈ evs,e.1 < n) (h2:∀ e ∈ evs,SetEv e):∃ L,LeastS evs n L:=by
 have key:∀ (c:Nat) (L:List Nat),room L<=c->ReachS evs (List.replicate n 0) L->L.length=n->(∀ x ∈ L,x < top)->∃ L',LeastS evs n L':=by
  intro c
  induction c with
  | zero =>
   intro L hc hr hl ht
   refine ⟨L,hr,fun e he=>?_,ht⟩
   rcases stepS_cases L e (by rw [hl]; exact h1 e he) ht (h2 e he L ht) with ⟨_,_,h⟩ | ⟨_,h⟩
   ·exact h
   ·omega
  | succ c ih =>
   intro L hc hr hl ht
   by_cases hcl:ClosedS evs L
   ·exact ⟨L,hr,hcl,ht⟩
   ·obtain ⟨e,he⟩:=Classical.not_forall.1 hcl
    obtain ⟨he1,he2⟩:=Classical.not_imp.1 he
    rcases stepS_cases L e (by rw [hl]; exact h1 e he1) ht (h2 e he1 L ht) with ⟨_,_,h⟩ | ⟨_,h⟩
    ·exact absurd h he2
    ·exact ih _ (by omega) (.step hr he1) (by rw [stepS_length]; exact hl) (set_lt ht _ (or_lt (getD_lt ht _) (h2 e he1 L ht)))
 exact key _ _ (Nat.le_refl _) .refl (by simp) (fun x hx=>by rw [List.eq_of_mem_replicate hx]; decide)
noncomputable def E0 (G:GD):List Bool:=Classical.epsilon (Least false G.prods G.sorts.length)
noncomputable def F0 (G:GD):List Nat:=Classical.epsilon (LeastS (evF G.terms.length (E0 G) G.prods) G.sorts.length)
theorem e0_least {G:GD} (hV:validB G=true):Least false G.prods G.sorts.length (E0 G):=
 Classical.epsilon_spec (least_exists fun p hp=>by have:=valid_rows hV p hp; omega)
theorem f0_least {G:GD} (hV:validB G=true):LeastS (evF G.terms.length (E0 G) G.prods) G.sorts.length (F0 G):=
 Classical.epsilon_spec (leastS_exists (fun e he=>by
  obtain ⟨p,hp,rfl⟩:=List.mem_map.1 he
  have:=valid_rows hV p hp
  show p.sort.toNat < _
  omega) (fun e he=>by
  obtain ⟨p,hp,rfl⟩:=List.mem_map.1 he
  exact fun L hL=>ofRow_lt _ _ hL _ (by decide)))
theorem f0_noEnd {G:GD} (hV:validB G=true):X15.NoEnd (F0 G):=by
 have hn:=(valid_parts hV).1
 have hM:∀ x ∈ List.replicate G.sorts.length (2 ^ 63 - 1),x=2 ^ 63 - 1:=fun x hx=>List.eq_of_mem_replicate hx
 have hle:=(f0_least hV).leN (evF_mono _ _ _ _) (M:=List.replicate G.sorts.length (2 ^ 63 - 1)) (by simp) (fun e he=>by
  obtain ⟨p,hp,rfl⟩:=List.mem_map.1 he
  have hr:=valid_rows hV p hp
  have hg:(List.replicate G.sorts.length (2 ^ 63 - 1)).getD p.sort.toNat 0=2 ^ 63 - 1:=by
   rw [gdQ,List.getElem?_replicate,if_pos (by omega)]
   rfl
  show Sub (ofRow _ _ _ p.rs 0) ((List.replicate G.sorts.length (2 ^ 63 - 1)).getD p.sort.toNat 0)
  rw [hg]
  refine sub_iff.2 fun i hi=>?_
  have h64:i < 64:=by
   rcases Nat.lt_or_ge i 64 with h | h
   ·exact h
   ·rw [testBit_hi (ofRow_lt _ _ (fun x hx=>by rw [hM x hx]; decide) _ (by decide)) h] at hi
    cases hi
  have h63:i ≠ 63:=fun e=>by
   subst e
   rw [X15.ofRow_noEnd (fun x hx=>by rw [hM x hx]; decide) hn] at hi
   cases hi
  rw [Nat.testBit_two_pow_sub_one]
  exact decide_eq_true (by omega))
 intro x hx
 obtain ⟨i,hi⟩:=List.mem_iff_getElem?.1 hx
 have h1:=hle i
 rw [X14.getD_get hi] at h1
 have h2:=sub_iff.1 h1 63
 cases hb:x.testBit 63
 ·rfl
 ·have h3:=h2 hb
  have hil:=(List.getElem?_eq_some_iff.1 hi).1
  rw [(f0_least hV).length] at hil
  rw [gdQ,List.getElem?_replicate,if_pos hil] at h3
  exact absurd h3 (by decide)
structure Com where
 is:Bool
 sym:Int
 fst:Nat
 emp:Bool
noncomputable def comX (G:GD) (x:It):Com:=match X14.behX G x with
 | none=>⟨false,0,0,false⟩
 | some s=>if s < 0 then ⟨true,s,ofRow G.terms.length (E0 G) (F0 G) (X15.restX G x) 0,X15.nulB (E0 G) (F0 G).length (X15.restX G x)⟩ else ⟨true,s,0,false⟩
theorem comX_none {G:GD} {x:It} (h:X14.behX G x=none):comX G x=⟨false,0,0,false⟩:=by unfold comX; rw [h]
theorem comX_term {G:GD} {x:It} {s:Int} (h:X14.behX G x=some s) (hs:¬ s < 0):comX G x=⟨true,s,0,false⟩:=by unfold comX; rw [h]; exact if_neg hs
theorem comX_sort {G:GD} {x:It} {s:Int} (h:X14.behX G x=some s) (hs:s < 0):comX G x=⟨true,s,ofRow G.terms.length (E0 G) (F0 G) (X15.restX G x) 0,X15.nulB (E0 G) (F0 G).length (X15.restX G x)⟩:=by unfold comX; rw [h]; exact if_pos hs
theorem comX_low {G:GD} (hV:validB G=true) (x:It):(comX G x).fst < top:=by
 cases h:X14.behX G x with
 | none=>rw [comX_none h]; decide
 | some s =>
  by_cases hs:s < 0
  ·rw [comX_sort h hs]; exact ofRow_lt _ _ (f0_least hV).2.2 _ (by decide)
  ·rw [comX_term h hs]; exact (by decide:(0:Nat) < top)
end Go.Proofs.YticmnfmijdgmbaaGreatDoor.S13
namespace Go.Proofs.YticmnfmijdgmbaaGreatDoor
open Go Go.RowKit Go.Lib
open X14 (It)
open Go.Maps (Keyed)
open S13 (u64 comX Com)
open S13.X15 (Pl)
theorem wp_look2 {P:Program} {w:World} {o:Oper} {a:Act} {K:Act->World->Prop} {Q:Exit->Act->World->Prop} {b:Nat} (m x:Operand) (t:TypeId) (ok:Bool) (hop:o.op=Op.lookup t m x ok) (hm:a.eval m=.map (some b)) (xv v:Value) (hx:a.eval x=xv)
  (hrun:(Instr.lookup t (.map (some b)) xv ok).run P w=.ok v w) (hK:K (a.put o.dst v) w):o.wp P a w K Q:=by
 unfold Oper.wp
 simp [execOp,hop,hm,hx,hrun,Result.andThen]
 exact hK
theorem wp_mput {P:Program} {w w2:World} {o:Oper} {a:Act} {K:Act->World->Prop} {Q:Exit->Act->World->Prop} {b:Nat} (m x v:Operand) (t:TypeId) (hop:o.op=Op.mapUpdate t m x v) (hm:a.eval m=.map (some b)) (xv vv:Value) (hx:a.eval x=xv) (hv:a.eval v=vv)
  (hrun:(Instr.mapUpdate t (.map (some b)) xv vv).run P w=.ok () w2) (hK:K (a.put o.dst undef) w2):o.wp P a w K Q:=by
 unfold Oper.wp
 simp [execOp,hop,hm,hx,hv,hrun,Result.andThen]
 exact hK
def plV (p:Pl):Value:=.agg #[.int .i64 (p.1:Int),.int .i64 p.2.1,.int .i64 p.2.2]
def plC (p:Pl):List Value:=[.int .i64 (p.1:Int),.int .i64 p.2.1,.int .i64 p.2.2]
def qcells (Q:List Pl):List Value:=Q.flatMap plC
theorem qcells_push (Q:List Pl) (p:Pl):qcells (Q ++ [p])=qcells Q ++ plC p:=by unfold qcells; rw [List.flatMap_append]; simp
theorem qcells_cons (p:Pl) (Q:List Pl):qcells (p :: Q)=plC p ++ qcells Q:=by unfold qcells; rw [List.flatMap_cons]
theorem plV_inj {p q:Pl} (h:plV p=plV q):p=q:=by
 obtain ⟨a,b,c⟩:=p
 obtain ⟨x,y,z⟩:=q
 unfold plV at h
 simp only [Value.agg.injEq,Array.mk.injEq,List.cons.injEq,Value.int.injEq,and_true,true_and] at h
 obtain ⟨h1,h2,h3⟩:=h
 obtain rfl:a=x:=by omega
 rw [h2,h3]
theorem itV_inj {x y:It} (h:itV x=itV y):x=y:=by
 unfold itV at h
 simp only [Value.agg.injEq,Array.mk.injEq,List.cons.injEq,Value.int.injEq,and_true,true_and] at h
 exact Prod.ext h.1 h.2
def amap (L:List (Pl × Nat)):List (Value × Value):=L.map fun e=>(plV e.1,u64 e.2)
def getA (L:List (Pl × Nat)) (p:Pl):Nat:=match L.find? fun e=>decide (e.1=p) with
 | some e=>e.2
 | none=>0
theorem getA_none {L:List (Pl × Nat)} {p:Pl} (h:p ∉ L.map (·.1)):getA L p=0:=by
 unfold getA
 rw [List.find?_eq_none.2 (fun e he=>by simp; intro e1; exact h (List.mem_map.2 ⟨e,he,e1⟩))]
theorem getA_some {L:List (Pl × Nat)} (hn:(L.map (·.1)).Nodup) {p:Pl} {v:Nat} (h:(p,v) ∈ L):getA L p=v:=by
 unfold getA
 induction L with
 | nil=>cases h
 | cons a l ih =>
  rw [List.map_cons,List.nodup_cons] at hn
  rw [List.find?_cons]
  rcases List.mem_cons.1 h with e | e
  ·subst e
   simp
  ·by_cases e1:a.1=p
   ·exact absurd (List.mem_map.2 ⟨(p,v),e,e1.symm⟩) hn.1
   ·rw [decide_eq_false e1]
    exact ih hn.2 e
theorem amap_nodup {L:List (Pl × Nat)} (h:((amap L).map (·.1)).Nodup):(L.map (·.1)).Nodup:=by
 have e:(amap L).map (·.1)=(L.map (·.1)).map plV:=by unfold amap; rw [List.map_map,List.map_map]; rfl
 rw [e] at h
 exact List.Pairwise.of_map plV (fun a b hab e=>hab (by rw [e])) h
def comV (c:Com):Value:=.agg #[.bool c.is,.int .i64 c.sym,u64 c.fst,.bool c.emp]
noncomputable def cmap (G:GD) (L:List It):List (Value × Value):=L.map fun x=>(itV x,comV (comX G x))
noncomputable def spItems (B bS bA bC:Nat) (G:GD) (gc:List Value) (LA:List (Pl × Nat)) (LC:List It) (qv:Value) (Q:List Pl) (rest:List Item):List Item:=
 blkI bS (.cells (gc ++ [.map (some bA),.map (some bC),qv]).toArray 156 (0,0)) :: mapI 158 bA (amap LA) :: mapI 60 bC (cmap G LC) :: queI B 3 qv Q.length (qcells Q) :: rest
end Go.Proofs.YticmnfmijdgmbaaGreatDoor
