/- The document's own answer: may a grammar be? -/
import Derived.Sort.Walk0
import Derived.Deep.QuietTactic
import Derived.BigQuiet
import Derived.Test.YticmnfmijdgmbaaGreatDoorSf
import Derived.Test.YticmnfmijdgmbaaGreatDoorSj
set_option linter.unusedVariables false
set_option linter.unusedSimpArgs false
namespace Go.Proofs.YticmnfmijdgmbaaGreatDoor
open Go Go.RowKit Go.Lib
theorem leS_not (x y:ByteArray):leS y x=!(Op.bytesLess x.toList y.toList):=by
 unfold leS
 rw [bytesLess_eq,bytesLess_eq,Bool.eq_iff_iff]
 simp only [Bool.or_eq_true,decide_eq_true_eq,beq_iff_eq,Bool.not_eq_true',decide_eq_false_iff_not]
 rw [List.not_lt,List.le_iff_lt_or_eq]
theorem run_geS (x y:ByteArray) (w:World):(binOp .geq 9 (.string x) (.string y)).run Tryz.prog w=.ok (.bool (leS y x)) w:=by
 rw [leS_not]
 rfl
theorem mem_getD {l:List Int} {k:Nat} (h:k < l.length):l.getD k 0 ∈ l:=by
 rw [gdQ,geQ h]; exact List.getElem_mem _
theorem valid_false {G:GD} (h:¬ (validB G=true)):validB G=false:=Bool.eq_false_iff.2 h
theorem valid_parts {G:GD} (h:validB G=true):G.terms.length<=60/\G.sorts.length<=60/\G.prods.length<=120/\G.prods.all (prodB G.terms.length G.sorts.length)=true/\G.over.all (pairB G.terms.length)=true/\(0<=G.start/\G.start < G.sorts.length) /\
  riseB G.sorts=true/\riseB (G.prods.map (·.lab))=true/\riseB G.terms=true:=by
 unfold validB at h
 simp only [Bool.and_eq_true,decide_eq_true_eq] at h
 obtain ⟨⟨⟨⟨⟨h1,h2⟩,h3⟩,h4⟩,h5⟩,⟨⟨h6,h7⟩,h8⟩,h9⟩:=h
 exact ⟨h1,h2,h3,h4,h5,h6,h7,h8,h9⟩
theorem valid_whole {G:GD} (h1:G.terms.length<=60) (h2:G.sorts.length<=60) (h3:G.prods.length<=120) (h4:G.prods.all (prodB G.terms.length G.sorts.length)=true) (h5:G.over.all (pairB G.terms.length)=true)
  (h6:0<=G.start/\G.start < G.sorts.length) (h7:riseB G.sorts=true) (h8:riseB (G.prods.map (·.lab))=true) (h9:riseB G.terms=true):validB G=true:=by
 unfold validB
 rw [h4,h5,h7,h8,h9,decide_eq_true h1,decide_eq_true h2,decide_eq_true h3,decide_eq_true h6]
 rfl
theorem rise_at {l:List ByteArray} (h:riseB l=true) {k:Nat} (hk:k + 1 < l.length):leS (l.getD (k + 1) ByteArray.empty) (l.getD k ByteArray.empty)=false:=by
 unfold riseB at h
 exact of_decide_eq_true h k (by omega)
theorem lab_at (l:List PD) {k:Nat} (h:k < l.length):(l.map (·.lab)).getD k ByteArray.empty=(l.getD k default).lab:=by
 simp [gdQ,geQ h]
theorem all_at {α:Type} {l:List α} {f:α->Bool} {d:α} {k:Nat} (h:l.all f=true) (hk:k < l.length):f (l.getD k d)=true:=by
 rw [List.all_eq_true] at h
 rw [gdQ,geQ hk]
 exact h _ (List.getElem_mem hk)
set_option maxRecDepth 100000 in
set_option maxHeartbeats 4000000 in
theorem RValid_any {G:GD} {gv tv ov sv pv:Value} {tf:Nat->Nat->Value} {rv:Nat->Value} {w:World} (h:GrAt w gv G tv ov sv pv tf rv) :
  Calls Tryz.prog 82 #[gv] w fun e w'=>e=.returned (.bool (validB G))/\Below w.heap.size w w':=by
 obtain ⟨W1,B,hW1,hB,c0,c1,c2,c3,c4,hG,hb,hsz⟩:=gr_box h
 subst hB
 have hgv:=h.eq
 have ht:=hG.terms
 have ho:=hG.over
 have hs:=hG.sorts
 have hp:=hG.prods
 have HR:=hid hG.rights
 subst hgv
 obtain ⟨ta,tc,rfl,htn,ht⟩:=ht
 obtain ⟨oa,oc,rfl,hon,ho⟩:=ho
 obtain ⟨sa,sc,rfl,hsn,hs⟩:=hs
 obtain ⟨pa,pc,rfl,hpn,hp⟩:=hp
 clear h hG
 have VP:=hid (valid_parts (G:=G))
 have VF:=hid (valid_false (G:=G))
 have VW:=hid (valid_whole (G:=G))
 generalize hV:validB G=V at *
 clear hV
 generalize hst:G.start=st at *
 generalize hnt:G.terms.length=nt at *
 generalize hno:G.over.length=no at *
 generalize hns:G.sorts.length=ns at *
 generalize hnp:G.prods.length=np at *
 have HT:=hid ht
 have HO:=hid ho
 have HS:=hid hs
 have HP:=hid hp
 have NT:=hid hnt
 have NO:=hid hno
 have NS:=hid hns
 have NP:=hid hnp
 clear ht ho hs hp hnt hno hns hnp hst
 have kf:¬ (V=true)->Hid (V=false):=VF.out
 have bad:Hid (60 < nt\/60 < ns\/120 < np\/st < 0\/(ns:Int)<=st->V=false):=fun hx=>VF.out fun hv=>by
  obtain ⟨p1,p2,p3,_,_,p6,_⟩:=VP.out hv
  omega
 by_cases h1:(60:Int) < (nt:Int)
 ·have hv:=hid (bad.out (by omega))
  go_enter Tryz.func82,Tryz.ntmps82
  go_wp2
  rw [<-hW1]
  go_ret
  exact ⟨by rw [hv.out] <;> rfl,hb⟩
 have h1':(nt:Int)<=60:=by omega
 by_cases h2:(60:Int) < (ns:Int)
 ·have hv:=hid (bad.out (by omega))
  go_enter Tryz.func82,Tryz.ntmps82
  go_wp2
  rw [<-hW1]
  go_ret
  exact ⟨by rw [hv.out] <;> rfl,hb⟩
 have h2':(ns:Int)<=60:=by omega
 by_cases h3:(120:Int) < (np:Int)
 ·have hv:=hid (bad.out (by omega))
  go_enter Tryz.func82,Tryz.ntmps82
  go_wp2
  rw [<-hW1]
  go_ret
  exact ⟨by rw [hv.out] <;> rfl,hb⟩
 have h3':(np:Int)<=120:=by omega
 by_cases h4:st < 0
 ·have hv:=hid (bad.out (by omega))
  go_enter Tryz.func82,Tryz.ntmps82
  go_wp2
  rw [<-hW1]
  go_ret
  exact ⟨by rw [hv.out] <;> rfl,hb⟩
 have h4':0<=st:=by omega
 by_cases h5:(ns:Int)<=st
 ·have hv:=hid (bad.out (by omega))
  go_enter Tryz.func82,Tryz.ntmps82
  go_wp2
  rw [<-hW1]
  go_ret
  exact ⟨by rw [hv.out] <;> rfl,hb⟩
 have h5':st < (ns:Int):=by omega
 have hneg:IntKind.i64.wrap (-(ns:Int))=-(ns:Int):=by rw [IntKind.wrap_i64]; omega
 clear h1 h2 h3 h4 h5 bad
 have b1:decide ((60:Int) < (nt:Int))=false:=decide_eq_false (by omega)
 have b2:decide ((60:Int) < (ns:Int))=false:=decide_eq_false (by omega)
 have b3:decide ((120:Int) < (np:Int))=false:=decide_eq_false (by omega)
 have b4:decide (st < 0)=false:=decide_eq_false (by omega)
 have b5:decide ((ns:Int)<=st)=false:=decide_eq_false (by omega)
 go_enter Tryz.func82,Tryz.ntmps82
 go_wp2_with fail
 rw [<-hW1]
 clear hW1
 go_loop [5] (fun i=>∃ k:Nat,k<=no/\i=.int .i64 (k:Int)/\∀ j,j < k->pairB nt (G.over.getD j (0,0))=true) (fun i=>no - (RowKit.intOf i).toNat)
 case atStart=>exact ⟨0,by omega,rfl,fun j hj=>by omega⟩
 case round =>
  obtain ⟨k,hk,rfl,hj⟩:=hrel
  have HJ:=hid hj
  clear hj
  by_cases hlt:k < no
  ·obtain ⟨b,off,rfl,hc⟩:=HO.out (by omega)
   obtain ⟨x0,x1⟩:=hc k hlt
   have HS1:Hid (pairB nt (G.over.getD k (0,0))=true->∀ j,j < k + 1->pairB nt (G.over.getD j (0,0))=true):=fun h j hj=>by
    rcases Nat.lt_or_ge j k with h1 | h1
    ·exact HJ.out j h1
    ·obtain rfl:j=k:=by omega
     exact h
   have HN:Hid (pairB nt (G.over.getD k (0,0))=false->V=false):=fun hf=>VF.out fun hv=>by
    have:=all_at (d:=(0,0)) (VP.out hv).2.2.2.2.1 (k:=k) (by have:=NO.out; omega)
    rw [hf] at this; cases this
   clear hc HJ
   generalize G.over.getD k (0,0)=q at *
   obtain ⟨q1,q2⟩:=q
   simp only at x0 x1
   have i0:(0:Int)<=(k:Int):=by omega
   have i1:(k:Int) < (no:Int):=by omega
   have hpb:pairB nt (q1,q2)=(decide (0<=q1/\q1 < nt) && decide (0<=q2/\q2 < nt)):=rfl
   rw [hpb] at HS1 HN
   clear hpb
   by_cases e1:q1 < 0
   ·have hv:=hid (HN.out (by rw [decide_eq_false (by omega)]; rfl))
    go_wp2
    go_ret
    exact ⟨by rw [hv.out] <;> rfl,hb⟩
   by_cases e2:(nt:Int)<=q1
   ·have hv:=hid (HN.out (by rw [decide_eq_false (by omega)]; rfl))
    go_wp2
    go_ret
    exact ⟨by rw [hv.out] <;> rfl,hb⟩
   by_cases e3:q2 < 0
   ·have hv:=hid (HN.out (by rw [decide_eq_false (p:=0<=q2/\q2 < nt) (by omega),Bool.and_false]))
    go_wp2
    go_ret
    exact ⟨by rw [hv.out] <;> rfl,hb⟩
   by_cases e4:(nt:Int)<=q2
   ·have hv:=hid (HN.out (by rw [decide_eq_false (p:=0<=q2/\q2 < nt) (by omega),Bool.and_false]))
    go_wp2
    go_ret
    exact ⟨by rw [hv.out] <;> rfl,hb⟩
   have HS2:=hid (HS1.out (by rw [decide_eq_true (by omega),decide_eq_true (by omega)]; rfl))
   have b6:decide (q1 < 0)=false:=decide_eq_false (by omega)
   have b7:decide ((nt:Int)<=q1)=false:=decide_eq_false (by omega)
   have b8:decide (q2 < 0)=false:=decide_eq_false (by omega)
   have b9:decide ((nt:Int)<=q2)=false:=decide_eq_false (by omega)
   go_wp2
   exact ⟨⟨k + 1,by omega,by go_num,HS2.out⟩,by simp [RowKit.intOf]; omega⟩
  ·obtain rfl:k=no:=by omega
   have HOV:Hid (G.over.all (pairB nt)=true):=all_up (d:=(0,0)) fun j hj=>HJ.out j (by have:=NO.out; omega)
   clear HJ
   go_wp2_with fail
   go_loopw [6] (fun i wr=>∃ k:Nat,(k + 1<=nt\/k=0)/\i=.int .i64 ((k:Int) + 1)/\Below W1.heap.size W1 wr/\∀ j,j < k->leS (G.terms.getD (j + 1) ByteArray.empty) (G.terms.getD j ByteArray.empty)=false) (fun i _=>nt - (RowKit.intOf i).toNat)
   case atStart=>exact ⟨0,by omega,rfl,Below.refl _ _,fun j hj=>by omega⟩
   case round =>
    obtain ⟨k,hk,rfl,hBW,hj⟩:=hrel
    have HJ:=hid hj
    clear hj
    have d0:=cell_below hBW c0
    have d1:=cell_below hBW c1
    have d2:=cell_below hBW c2
    have d3:=cell_below hBW c3
    have d4:=cell_below hBW c4
    by_cases hlt:k + 1 < nt
    ·obtain ⟨b,off,rfl,hc⟩:=HT.out (by omega)
     have g1:=cell_below hBW ((hc (k + 1) hlt).1)
     have g2:=cell_below hBW ((hc k (by omega)).1)
     have HS1:Hid (leS (G.terms.getD (k + 1) ByteArray.empty) (G.terms.getD k ByteArray.empty)=false->∀ j,j < k + 1->leS (G.terms.getD (j + 1) ByteArray.empty) (G.terms.getD j ByteArray.empty)=false):=fun h j hj=>by
      rcases Nat.lt_or_ge j k with h1 | h1
      ·exact HJ.out j h1
      ·obtain rfl:j=k:=by omega
       exact h
     have HN:Hid (leS (G.terms.getD (k + 1) ByteArray.empty) (G.terms.getD k ByteArray.empty)=true->V=false):=fun hf=>VF.out fun hv=>by
      have:=rise_at ((VP.out hv).2.2.2.2.2.2.2.2) (k:=k) (by have:=NT.out; omega)
      rw [hf] at this; cases this
     clear hc HJ
     generalize G.terms.getD k ByteArray.empty=x at *
     generalize G.terms.getD (k + 1) ByteArray.empty=y at *
     have i0:(0:Int)<=(k:Int) + 1:=by omega
     have i1:(k:Int) + 1 < (nt:Int):=by omega
     have i3:(0:Int)<=(k:Int):=by omega
     have i4:(k:Int) < (nt:Int):=by omega
     have i5:IntKind.i64.wrap (k:Int)=(k:Int):=by rw [IntKind.wrap_i64]; omega
     have i6:((k:Int) + 1).toNat=k + 1:=by omega
     have r1:=run_geS x y
     generalize leS y x=LE at *
     go_wp2_with fail
     go_quiet (fail)
     replace hBW:=below_drewN hBW nq
     clear i5 i6
     cases LE
     ·have HS2:=hid (HS1.out rfl)
      go_wp2
      exact ⟨⟨k + 1,by omega,by go_num,hBW,HS2.out⟩,by simp [RowKit.intOf]; omega⟩
     ·have HN2:=hid (HN.out rfl)
      go_wp2
      go_ret
      exact ⟨by rw [HN2.out] <;> rfl,hb.trans (hBW.mono hsz)⟩
    ·have i1:¬ ((k:Int) + 1 < (nt:Int)):=by omega
     have HRT:Hid (riseB G.terms=true):=rise_up fun j hj=>HJ.out j (by have:=NT.out; omega)
     clear HJ
     go_wp2_with fail
     go_loopw [7] (fun i wr=>∃ k:Nat,(k + 1<=ns\/k=0)/\i=.int .i64 ((k:Int) + 1)/\Below W1.heap.size W1 wr/\∀ j,j < k->leS (G.sorts.getD (j + 1) ByteArray.empty) (G.sorts.getD j ByteArray.empty)=false) (fun i _=>ns - (RowKit.intOf i).toNat)
     case atStart=>exact ⟨0,by omega,rfl,hBW,fun j hj=>by omega⟩
     case round =>
      clear d0 d1 d2 d3 d4 hBW
      obtain ⟨k,hk,rfl,hBW,hj⟩:=hrel
      have HJ:=hid hj
      clear hj
      have d0:=cell_below hBW c0
      have d1:=cell_below hBW c1
      have d2:=cell_below hBW c2
      have d3:=cell_below hBW c3
      have d4:=cell_below hBW c4
      by_cases hlt:k + 1 < ns
      ·obtain ⟨b,off,rfl,hc⟩:=HS.out (by omega)
       have g1:=cell_below hBW (hc (k + 1) hlt)
       have g2:=cell_below hBW (hc k (by omega))
       have HS1:Hid (leS (G.sorts.getD (k + 1) ByteArray.empty) (G.sorts.getD k ByteArray.empty)=false->∀ j,j < k + 1->leS (G.sorts.getD (j + 1) ByteArray.empty) (G.sorts.getD j ByteArray.empty)=false):=fun h j hj=>by
        rcases Nat.lt_or_ge j k with h1 | h1
        ·exact HJ.out j h1
        ·obtain rfl:j=k:=by omega
         exact h
       have HN:Hid (leS (G.sorts.getD (k + 1) ByteArray.empty) (G.sorts.getD k ByteArray.empty)=true->V=false):=fun hf=>VF.out fun hv=>by
        have:=rise_at ((VP.out hv).2.2.2.2.2.2.1) (k:=k) (by have:=NS.out; omega)
        rw [hf] at this; cases this
       clear hc HJ
       generalize G.sorts.getD k ByteArray.empty=x at *
       generalize G.sorts.getD (k + 1) ByteArray.empty=y at *
       have i0:(0:Int)<=(k:Int) + 1:=by omega
       have i1:(k:Int) + 1 < (ns:Int):=by omega
       have i3:(0:Int)<=(k:Int):=by omega
       have i4:(k:Int) < (ns:Int):=by omega
       have i5:IntKind.i64.wrap (k:Int)=(k:Int):=by rw [IntKind.wrap_i64]; omega
       have i6:((k:Int) + 1).toNat=k + 1:=by omega
       have r1:=run_geS x y
       generalize leS y x=LE at *
       go_wp2_with fail
       go_quiet (fail)
       replace hBW:=below_drewN hBW nq
       clear i5 i6
       cases LE
       ·have HS2:=hid (HS1.out rfl)
        go_wp2
        exact ⟨⟨k + 1,by omega,by go_num,hBW,HS2.out⟩,by simp [RowKit.intOf]; omega⟩
       ·have HN2:=hid (HN.out rfl)
        go_wp2
        go_ret
        exact ⟨by rw [HN2.out] <;> rfl,hb.trans (hBW.mono hsz)⟩
      ·have i1:¬ ((k:Int) + 1 < (ns:Int)):=by omega
       have HRS:Hid (riseB G.sorts=true):=rise_up fun j hj=>HJ.out j (by have:=NS.out; omega)
       clear HJ
       go_wp2_with fail
       go_loopw [8] (fun i wr=>∃ k:Nat,k<=np/\i=.int .i64 (k:Int)/\Below W1.heap.size W1 wr/\(∀ j,j < k->prodB nt ns (G.prods.getD j default)=true)/\∀ j,j + 1 < k->leS (G.prods.getD (j + 1) default).lab (G.prods.getD j default).lab=false) (fun i _=>np - (RowKit.intOf i).toNat)
       case atStart=>exact ⟨0,by omega,rfl,hBW,fun j hj=>by omega,fun j hj=>by omega⟩
       case round =>
        clear d0 d1 d2 d3 d4 hBW
        obtain ⟨k,hk,rfl,hBW,hj,hj2⟩:=hrel
        have HJ:=hid hj
        have HJ2:=hid hj2
        clear hj hj2
        have d0:=cell_below hBW c0
        have d1:=cell_below hBW c1
        have d2:=cell_below hBW c2
        have d3:=cell_below hBW c3
        have d4:=cell_below hBW c4
        by_cases hlt:k < np
        ·obtain ⟨b,off,rfl,hc⟩:=HP.out (by omega)
         obtain ⟨x0,x1,x2,x3⟩:=hc k hlt
         have HPV:Hid (∀ m,k=m + 1->W1.cell? ⟨b,off + m * 4,none⟩=some (.string (G.prods.getD m default).lab)):=fun m hm=>(hc m (by omega)).1
         obtain ⟨⟨ra,rc,hrv,hrn,hrc⟩,hri⟩:=HR.out k (by have:=NP.out; omega)
         rw [hrv] at x2
         have HFB:Hid (prodB nt ns (G.prods.getD k default)=false->V=false):=fun hf=>VF.out fun hv=>by
          have:=all_at (d:=default) (VP.out hv).2.2.2.1 (k:=k) (by have:=NP.out; omega)
          rw [hf] at this; cases this
         have HFL:Hid (∀ m,k=m + 1->leS (G.prods.getD k default).lab (G.prods.getD m default).lab=true->V=false):=fun m hm hf=>VF.out fun hv=>by
          have:=rise_at (VP.out hv).2.2.2.2.2.2.2.1 (k:=m) (by have:=NP.out; simp; omega)
          rw [lab_at _ (by have:=NP.out; omega),lab_at _ (by have:=NP.out; omega),<-hm,hf] at this; cases this
         have HS1:Hid (prodB nt ns (G.prods.getD k default)=true->∀ j,j < k + 1->prodB nt ns (G.prods.getD j default)=true):=fun h j hj=>by
          rcases Nat.lt_or_ge j k with h1 | h1
          ·exact HJ.out j h1
          ·obtain rfl:j=k:=by omega
           exact h
         have HS2:Hid ((∀ m,k=m + 1->leS (G.prods.getD k default).lab (G.prods.getD m default).lab=false)->∀ j,j + 1 < k + 1->leS (G.prods.getD (j + 1) default).lab (G.prods.getD j default).lab=false):=fun h j hj=>by
          rcases Nat.lt_or_ge (j + 1) k with h1 | h1
          ·exact HJ2.out j h1
          ·obtain rfl:k=j + 1:=by omega
           exact h j rfl
         clear hc HJ HJ2
         generalize G.prods.getD k default=P at *
         have HRC:=hid hrc
         have HRI:=hid hri
         clear hrc hri hrv
         replace x0:=cell_below hBW x0
         replace x1:=cell_below hBW x1
         replace x2:=cell_below hBW x2
         replace x3:=cell_below hBW x3
         have i0:(0:Int)<=(k:Int):=by omega
         have i1:(k:Int) < (np:Int):=by omega
         generalize hrl:P.rs.length=rl at *
         have HRL:=hid hrl
         clear hrl
         obtain ⟨w2,hw2⟩:∃ w2,w2=wr.alloc (.cells #[.string P.lab,.int .i64 P.sort,.slice ra rl rc,.int .i64 P.cls] 71):=⟨_,rfl⟩
         have hb2:Below wr.heap.size wr w2:=by rw [hw2]; exact (Below.refl _ _).alloc (Nat.le_refl _) _
         have p0:w2.cell? ⟨wr.heap.size,0,none⟩=some (.string P.lab):=by rw [hw2,World.cell?_alloc_mark]; rfl
         have p1:w2.cell? ⟨wr.heap.size,1,none⟩=some (.int .i64 P.sort):=by rw [hw2,World.cell?_alloc_mark]; rfl
         have p2:w2.cell? ⟨wr.heap.size,2,none⟩=some (.slice ra rl rc):=by rw [hw2,World.cell?_alloc_mark]; rfl
         have hBW2:=hBW.trans (hb2.mono hBW.size)
         clear hb2
         have y3:=cell_below hBW2 c3
         by_cases hk0:k=0
         ·have i2:decide ((0:Int) < (k:Int))=false:=decide_eq_false (by omega)
          have i2b:(k:Int)<=0:=by omega
          have i2n:decide (0 < k)=false:=decide_eq_false (by omega)
          have HLZ:Hid (∀ m,k=m + 1->leS P.lab (G.prods.getD m default).lab=false):=fun m hm=>absurd hm (by omega)
          have HK0:=hid hk0
          clear hk0
          by_cases e1:P.sort < 0
          ·have hv:=hid (HFB.out (prodB_sort (by omega)))
           have b6:decide (P.sort < 0)=true:=decide_eq_true e1
           go_wp2_with fail
           rw [<-hw2]
           clear hw2
           go_quiet (fail)
           go_wp2
           go_ret
           exact ⟨by rw [hv.out] <;> rfl,hb.trans ((below_drewN hBW2 nq).mono hsz)⟩
          by_cases e2:(ns:Int)<=P.sort
          ·have hv:=hid (HFB.out (prodB_sort (by omega)))
           have b6:decide (P.sort < 0)=false:=decide_eq_false e1
           have b7:decide ((ns:Int)<=P.sort)=true:=decide_eq_true e2
           go_wp2_with fail
           rw [<-hw2]
           clear hw2
           go_quiet (fail)
           go_wp2
           go_ret
           exact ⟨by rw [hv.out] <;> rfl,hb.trans ((below_drewN hBW2 nq).mono hsz)⟩
          by_cases e3:(12:Int) < (rl:Int)
          ·have hv:=hid (HFB.out (prodB_long (by have:=HRL.out; omega)))
           have b6:decide (P.sort < 0)=false:=decide_eq_false e1
           have b7:decide ((ns:Int)<=P.sort)=false:=decide_eq_false e2
           have b8:decide ((12:Int) < (rl:Int))=true:=decide_eq_true e3
           go_wp2_with fail
           rw [<-hw2]
           clear hw2
           go_quiet (fail)
           go_wp2
           go_ret
           exact ⟨by rw [hv.out] <;> rfl,hb.trans ((below_drewN hBW2 nq).mono hsz)⟩
          have b6:decide (P.sort < 0)=false:=decide_eq_false e1
          have b7:decide ((ns:Int)<=P.sort)=false:=decide_eq_false e2
          have b8:decide ((12:Int) < (rl:Int))=false:=decide_eq_false e3
          have e1':0<=P.sort:=by omega
          have e2':P.sort < (ns:Int):=by omega
          have e3':(rl:Int)<=12:=by omega
          clear e1 e2 e3
          go_wp2_with fail
          rw [<-hw2]
          clear hw2
          go_quiet (fail)
          have hBW3:=below_drewN hBW2 nq
          have q2:(w2.drewN nq).cell? ⟨wr.heap.size,2,none⟩=some (.slice ra rl rc):=p2
          clear p0 p1 p2 y3 x0 x1 x2 x3 d0 d1 d2 d3 d4
          generalize wr.heap.size=pb at *
          generalize w2.drewN nq=w3 at *
          go_wp2_with fail
          go_loop [10] (fun i=>∃ q:Nat,q<=rl/\i=.int .i64 (q:Int)/\∀ j,j < q->symB nt ns (P.rs.getD j 0)=true) (fun i=>rl - (RowKit.intOf i).toNat)
          case atStart=>exact ⟨0,by omega,rfl,fun j hj=>by omega⟩
          case round =>
           obtain ⟨q,hq,rfl,hjq⟩:=hrel
           have HJQ:=hid hjq
           clear hjq
           by_cases hql:q < rl
           ·obtain ⟨rb,ro,rfl,hcc⟩:=HRC.out (by have:=HRL.out; omega)
            have g:W1.cell? ⟨rb,ro + q,none⟩=some (.int .i64 (P.rs.getD q 0)):=hcc q (by have:=HRL.out; omega)
            replace g:=cell_below hBW3 g
            have hsr:=HRI.out (P.rs.getD q 0) (mem_getD (by have:=HRL.out; omega))
            have HSY:Hid (symB nt ns (P.rs.getD q 0)=true->∀ j,j < q + 1->symB nt ns (P.rs.getD j 0)=true):=fun h j hj=>by
             rcases Nat.lt_or_ge j q with h1 | h1
             ·exact HJQ.out j h1
             ·obtain rfl:j=q:=by omega
              exact h
            have HSN:Hid (symB nt ns (P.rs.getD q 0)=false->V=false):=fun hf=>HFB.out (prodB_sym (j:=q) (by have:=HRL.out; omega) hf)
            clear hcc HJQ
            obtain ⟨s,hs⟩:=nmQ (P.rs.getD q 0)
            rw [hs] at g hsr HSY HSN
            clear hs
            have k0:(0:Int)<=(q:Int):=by omega
            have k1:(q:Int) < (rl:Int):=by omega
            have hsy:symB nt ns s=decide (0<=s/\s < nt\/s < 0/\-1 - s < ns):=rfl
            rw [hsy] at HSY HSN
            clear hsy
            by_cases f1:(nt:Int)<=s
            ·have hv:=hid (HSN.out (decide_eq_false (by omega)))
             have b9:decide ((nt:Int)<=s)=true:=decide_eq_true f1
             go_wp2
             go_ret
             exact ⟨by rw [hv.out] <;> rfl,hb.trans (hBW3.mono hsz)⟩
            by_cases f2:s < -(ns:Int)
            ·have hv:=hid (HSN.out (decide_eq_false (by omega)))
             have b9:decide ((nt:Int)<=s)=false:=decide_eq_false f1
             have b10:decide (s < -(ns:Int))=true:=decide_eq_true f2
             go_wp2
             go_ret
             exact ⟨by rw [hv.out] <;> rfl,hb.trans (hBW3.mono hsz)⟩
            have hv:=hid (HSY.out (decide_eq_true (by omega)))
            have b9:decide ((nt:Int)<=s)=false:=decide_eq_false f1
            have b10:decide (s < -(ns:Int))=false:=decide_eq_false f2
            go_wp2
            exact ⟨⟨q + 1,by omega,by go_num,hv.out⟩,by simp [RowKit.intOf]; omega⟩
           ·have k1:¬ ((q:Int) < (rl:Int)):=by omega
            have hpb:=prodB_up (nt:=nt) (ns:=ns) (p:=P) ⟨e1',e2'⟩ (by have:=HRL.out; omega) (fun j hj=>HJQ.out j (by have:=HRL.out; omega))
            have HA:=hid (HS1.out hpb)
            have HB:=hid (HS2.out HLZ.out)
            clear hpb
            go_wp2
            exact ⟨⟨k + 1,by omega,by go_num,hBW3,HA.out,HB.out⟩,by simp [RowKit.intOf]; omega⟩
         ·obtain ⟨m,hm⟩:∃ m,k=m + 1:=⟨k - 1,by omega⟩
          have g0:=cell_below hBW2 (HPV.out m hm)
          have HL1:=HFL.out m hm
          have i2:decide ((0:Int) < (k:Int))=true:=decide_eq_true (by omega)
          have i2b:(0:Int) < (k:Int):=by omega
          have i2n:decide (0 < k)=true:=decide_eq_true (by omega)
          have i2m:0 < k:=by omega
          have i5:IntKind.i64.wrap ((k:Int) - 1)=(m:Int):=by rw [IntKind.wrap_i64]; omega
          have i5b:(k:Int) - 1=(m:Int):=by omega
          have i7:(0:Int)<=(m:Int):=by omega
          have i8:(m:Int) < (np:Int):=by omega
          have HL0:Hid (leS P.lab (G.prods.getD m default).lab=false->∀ m',k=m' + 1->leS P.lab (G.prods.getD m' default).lab=false):=fun h m' hm'=>by
           obtain rfl:m'=m:=by omega
           exact h
          have HM:=hid hm
          clear hm hk0
          have r1:=run_geS (G.prods.getD m default).lab P.lab
          generalize (G.prods.getD m default).lab=pl at *
          generalize leS P.lab pl=LE at *
          cases LE
          ·have HLZ:=hid (HL0.out rfl)
           clear HL0
           by_cases e1:P.sort < 0
           ·have hv:=hid (HFB.out (prodB_sort (by omega)))
            have b6:decide (P.sort < 0)=true:=decide_eq_true e1
            go_wp2_with fail
            rw [<-hw2]
            clear hw2
            go_quiet (fail)
            go_wp2
            go_ret
            exact ⟨by rw [hv.out] <;> rfl,hb.trans ((below_drewN hBW2 nq).mono hsz)⟩
           by_cases e2:(ns:Int)<=P.sort
           ·have hv:=hid (HFB.out (prodB_sort (by omega)))
            have b6:decide (P.sort < 0)=false:=decide_eq_false e1
            have b7:decide ((ns:Int)<=P.sort)=true:=decide_eq_true e2
            go_wp2_with fail
            rw [<-hw2]
            clear hw2
            go_quiet (fail)
            go_wp2
            go_ret
            exact ⟨by rw [hv.out] <;> rfl,hb.trans ((below_drewN hBW2 nq).mono hsz)⟩
           by_cases e3:(12:Int) < (rl:Int)
           ·have hv:=hid (HFB.out (prodB_long (by have:=HRL.out; omega)))
            have b6:decide (P.sort < 0)=false:=decide_eq_false e1
            have b7:decide ((ns:Int)<=P.sort)=false:=decide_eq_false e2
            have b8:decide ((12:Int) < (rl:Int))=true:=decide_eq_true e3
            go_wp2_with fail
            rw [<-hw2]
            clear hw2
            go_quiet (fail)
            go_wp2
            go_ret
            exact ⟨by rw [hv.out] <;> rfl,hb.trans ((below_drewN hBW2 nq).mono hsz)⟩
           have b6:decide (P.sort < 0)=false:=decide_eq_false e1
           have b7:decide ((ns:Int)<=P.sort)=false:=decide_eq_false e2
           have b8:decide ((12:Int) < (rl:Int))=false:=decide_eq_false e3
           have e1':0<=P.sort:=by omega
           have e2':P.sort < (ns:Int):=by omega
           have e3':(rl:Int)<=12:=by omega
           clear e1 e2 e3
           go_wp2_with fail
           rw [<-hw2]
           clear hw2
           go_quiet (fail)
           have hBW3:=below_drewN hBW2 nq
           have q2:(w2.drewN nq).cell? ⟨wr.heap.size,2,none⟩=some (.slice ra rl rc):=p2
           clear p0 p1 p2 y3 x0 x1 x2 x3 d0 d1 d2 d3 d4
           generalize wr.heap.size=pb at *
           generalize w2.drewN nq=w3 at *
           go_wp2_with fail
           go_loop [10] (fun i=>∃ q:Nat,q<=rl/\i=.int .i64 (q:Int)/\∀ j,j < q->symB nt ns (P.rs.getD j 0)=true) (fun i=>rl - (RowKit.intOf i).toNat)
           case atStart=>exact ⟨0,by omega,rfl,fun j hj=>by omega⟩
           case round =>
            obtain ⟨q,hq,rfl,hjq⟩:=hrel
            have HJQ:=hid hjq
            clear hjq
            by_cases hql:q < rl
            ·obtain ⟨rb,ro,rfl,hcc⟩:=HRC.out (by have:=HRL.out; omega)
             have g:W1.cell? ⟨rb,ro + q,none⟩=some (.int .i64 (P.rs.getD q 0)):=hcc q (by have:=HRL.out; omega)
             replace g:=cell_below hBW3 g
             have hsr:=HRI.out (P.rs.getD q 0) (mem_getD (by have:=HRL.out; omega))
             have HSY:Hid (symB nt ns (P.rs.getD q 0)=true->∀ j,j < q + 1->symB nt ns (P.rs.getD j 0)=true):=fun h j hj=>by
              rcases Nat.lt_or_ge j q with h1 | h1
              ·exact HJQ.out j h1
              ·obtain rfl:j=q:=by omega
               exact h
             have HSN:Hid (symB nt ns (P.rs.getD q 0)=false->V=false):=fun hf=>HFB.out (prodB_sym (j:=q) (by have:=HRL.out; omega) hf)
             clear hcc HJQ
             obtain ⟨s,hs⟩:=nmQ (P.rs.getD q 0)
             rw [hs] at g hsr HSY HSN
             clear hs
             have k0:(0:Int)<=(q:Int):=by omega
             have k1:(q:Int) < (rl:Int):=by omega
             have hsy:symB nt ns s=decide (0<=s/\s < nt\/s < 0/\-1 - s < ns):=rfl
             rw [hsy] at HSY HSN
             clear hsy
             by_cases f1:(nt:Int)<=s
             ·have hv:=hid (HSN.out (decide_eq_false (by omega)))
              have b9:decide ((nt:Int)<=s)=true:=decide_eq_true f1
              go_wp2
              go_ret
              exact ⟨by rw [hv.out] <;> rfl,hb.trans (hBW3.mono hsz)⟩
             by_cases f2:s < -(ns:Int)
             ·have hv:=hid (HSN.out (decide_eq_false (by omega)))
              have b9:decide ((nt:Int)<=s)=false:=decide_eq_false f1
              have b10:decide (s < -(ns:Int))=true:=decide_eq_true f2
              go_wp2
              go_ret
              exact ⟨by rw [hv.out] <;> rfl,hb.trans (hBW3.mono hsz)⟩
             have hv:=hid (HSY.out (decide_eq_true (by omega)))
             have b9:decide ((nt:Int)<=s)=false:=decide_eq_false f1
             have b10:decide (s < -(ns:Int))=false:=decide_eq_false f2
             go_wp2
             exact ⟨⟨q + 1,by omega,by go_num,hv.out⟩,by simp [RowKit.intOf]; omega⟩
            ·have k1:¬ ((q:Int) < (rl:Int)):=by omega
             have hpb:=prodB_up (nt:=nt) (ns:=ns) (p:=P) ⟨e1',e2'⟩ (by have:=HRL.out; omega) (fun j hj=>HJQ.out j (by have:=HRL.out; omega))
             have HA:=hid (HS1.out hpb)
             have HB:=hid (HS2.out HLZ.out)
             clear hpb
             go_wp2
             exact ⟨⟨k + 1,by omega,by go_num,hBW3,HA.out,HB.out⟩,by simp [RowKit.intOf]; omega⟩
          ·have HN2:=hid (HL1 rfl)
           go_wp2_with fail
           rw [<-hw2]
           clear hw2
           go_quiet (fail)
           go_wp2
           go_ret
           exact ⟨by rw [HN2.out] <;> rfl,hb.trans ((below_drewN hBW2 nq).mono hsz)⟩
        ·have hkk:k=np:=by omega
         have i1:¬ ((k:Int) < (np:Int)):=by omega
         have HA:Hid (G.prods.all (prodB nt ns)=true):=all_up (d:=default) fun j hj=>HJ.out j (by have:=NP.out; omega)
         have HRP:Hid (riseB (G.prods.map (·.lab))=true):=rise_up fun j hj=>by
          have hl:(G.prods.map (·.lab)).length=np:=by rw [List.length_map]; exact NP.out
          rw [lab_at _ (by have:=NP.out; omega),lab_at _ (by have:=NP.out; omega)]
          exact HJ2.out j (by omega)
         have HV:Hid (V=true):=VW.out (by omega) (by omega) (by omega) HA.out HOV.out ⟨h4',h5'⟩ HRS.out HRP.out HRT.out
         go_wp2
         go_ret
         exact ⟨by rw [HV.out] <;> rfl,hb.trans (hBW.mono hsz)⟩
open X14 (It thereX behX beginX rightX sortX IsClose Clos)
theorem beh_sort {G:GD} {x:It} {s:Int} (hv:validB G=true) (hb:behX G x=some s) (hs:s < 0):-1 - s < (G.sorts.length:Int)/\0<=-1 - s:=by
 refine ⟨?_,by omega⟩
 have ht:=X14.there_iff.1 (X14.beh_there hb)
 unfold X14.behX at hb
 rw [if_pos (X14.beh_there (by unfold X14.behX; exact hb))] at hb
 obtain ⟨hlt,he⟩:=List.getElem?_eq_some_iff.1 hb
 obtain ⟨_,_,_,hp,_,hst,_⟩:=valid_parts hv
 have hmem:s ∈ rightX G x.1:=by rw [<-he]; exact List.getElem_mem hlt
 by_cases h1:x.1=-1
 ·have e:rightX G x.1=[-1 - G.start]:=by unfold X14.rightX; rw [if_pos h1]
  rw [e] at hmem
  have:s=-1 - G.start:=by simpa using hmem
  omega
 ·have e:rightX G x.1=(G.prods.getD x.1.toNat default).rs:=by unfold X14.rightX; rw [if_neg h1]
  rw [e] at hmem
  have hlp:x.1.toNat < G.prods.length:=by omega
  have hpm:G.prods.getD x.1.toNat default ∈ G.prods:=by
   rw [gdQ,geQ hlp]
   exact List.getElem_mem hlp
  have hq:=List.all_eq_true.1 hp _ hpm
  unfold prodB at hq
  simp only [Bool.and_eq_true,decide_eq_true_eq] at hq
  have hsy:=List.all_eq_true.1 hq.2 s hmem
  unfold symB at hsy
  have:=of_decide_eq_true hsy
  omega
def cntB (G:GD) (begun:Nat->Bool):Nat:=((List.range G.prods.length).filter fun p=>decide (0<=sortX G p) && begun (sortX G p).toNat).length
theorem cntB_le (G:GD) (begun:Nat->Bool):cntB G begun<=G.prods.length:=by
 unfold cntB
 exact Nat.le_trans (List.length_filter_le _ _) (by simp)
theorem filter_or {α:Type} (f g h:α->Bool) (hd:∀ x,f x=true->g x=true->False) (he:∀ x,h x=(f x || g x)):∀ l:List α,(l.filter h).length=(l.filter f).length + (l.filter g).length
 | []=>rfl
 | x :: l=>by
  have ih:=filter_or f g h hd he l
  have hx:=he x
  have hdx:=hd x
  cases hf:f x <;> cases hg:g x <;> rw [hf,hg] at hx <;> simp only [Bool.or_false,Bool.or_true,Bool.false_or,Bool.true_or] at hx <;> simp [List.filter_cons,hx,hf,hg,ih]
  ·omega
  ·omega
  ·exact (hdx hf hg).elim
theorem cntB_begin {G:GD} {begun:Nat->Bool} {t:Nat} (hb:begun t=false):cntB G (fun k=>if k=t then true else begun k)=cntB G begun + (beginX G t G.prods.length).length:=by
 unfold cntB X14.beginX
 rw [List.length_map]
 refine filter_or (fun p=>decide (0<=sortX G p) && begun (sortX G p).toNat) (fun p=>sortX G p == (t:Int)) _ (fun p h1 h2=>?_) (fun p=>?_) _
 ·simp only [Bool.and_eq_true,decide_eq_true_eq] at h1
  have h3:sortX G p=(t:Int):=by simpa using h2
  rw [h3,Int.toNat_natCast,hb] at h1
  exact absurd h1.2 (by decide)
 ·by_cases h3:sortX G p=(t:Int)
  ·rw [h3]
   simp
  ·have h4:(sortX G p == (t:Int))=false:=by simpa using h3
   rw [h4,Bool.or_false]
   by_cases h0:0<=sortX G p
   ·show (_ && (if (sortX G p).toNat=t then true else begun _))=_
    rw [if_neg (by omega)]
   ·simp [h0]
theorem cntB_none (G:GD):cntB G (fun _=>false)=0:=by
 unfold cntB
 simp
theorem clos_start (G:GD) (l:List It):Clos G l (l.filter (thereX G)) (fun _=>false) 0:=
 ⟨fun x hx=>.base x (List.mem_filter.1 hx).1 (List.mem_filter.1 hx).2,fun x hx ht=>List.mem_filter.2 ⟨hx,ht⟩,fun _ _ h=>(by cases h),fun j _ _ hj=>absurd hj (Nat.not_lt_zero j)⟩
structure InvS (G:GD) (l:List It) (w0 wr:World) (bG bo bb:Nat) (gb:Array Value) (O:List It) (g c:Nat) (begun:Nat->Bool) (i:Nat) (ds:List Nat):Prop where
 out:Out w0 wr bo O g c
 box:wr.heap[bG]?=some (.cells gb 27 (0,0))
 bools:wr.heap[bb]?=some (.cells ((Array.range G.sorts.length).map fun k=>.bool (begun k)) 4 (0,0))
 clos:Clos G l O begun i
 len:O.length<=l.length + cntB G begun
 le:i<=O.length
 gG:g ≠ bG
 gb:g ≠ bb
 nd:ds.Nodup
 dge:∀ D ∈ ds,w0.heap.size<=D
 ds:∀ D ∈ ds,wr.heap[D]?=some (.deferred (some []))
theorem InvS.below {G:GD} {l:List It} {w0 wr W:World} {bG bo bb:Nat} {gb:Array Value} {O:List It} {g c:Nat} {begun:Nat->Bool} {i:Nat} {ds:List Nat} (h:InvS G l w0 wr bG bo bb gb O g c begun i ds) (hb:Below wr.heap.size wr W):InvS G l w0 W bG bo bb gb O g c begun i ds:=
 ⟨h.out.below hb,(hb.block _ (ltQ h.box)).trans h.box,(hb.block _ (ltQ h.bools)).trans h.bools,h.clos,h.len,h.le,h.gG,h.gb,h.nd,h.dge,fun D hD=>(hb.block _ (Array.getElem?_eq_some_iff.1 (h.ds D hD)).1).trans (h.ds D hD)⟩
theorem InvS.dne {G:GD} {l:List It} {w0 wr:World} {bG bo bb:Nat} {gb:Array Value} {O:List It} {g c:Nat} {begun:Nat->Bool} {i:Nat} {ds:List Nat} (h:InvS G l w0 wr bG bo bb gb O g c begun i ds) {D:Nat} (hD:D ∈ ds):D ≠ g/\D ≠ bo/\D ≠ bb:=by
 have e:=h.ds D hD
 refine ⟨fun hx=>?_,fun hx=>?_,fun hx=>?_⟩
 ·rcases h.out.own.2 with ⟨e1,_⟩ | ⟨g',cap,cur,e1,_,e2,_⟩
  ·cases e1
  ·obtain rfl:g=g':=by injection e1 with e1; injection e1 with e1; injection e1
   rw [<-hx,e] at e2
   cases e2
 ·have e2:=h.out.box
  rw [<-hx,e] at e2
  cases e2
 ·have e2:=h.bools
  rw [<-hx,e] at e2
  cases e2
theorem InvS.mark {G:GD} {l:List It} {w0 wr:World} {bG bo bb:Nat} {gb:Array Value} {O:List It} {g c:Nat} {begun:Nat->Bool} {i:Nat} {ds:List Nat} (h:InvS G l w0 wr bG bo bb gb O g c begun i ds) (t:Nat) (hG:bG ≠ bb) (ho:bo ≠ bb) (hw:w0.heap.size<=bb) :
  Out w0 (wr.setCell ⟨bb,t,none⟩ (.bool true)) bo O g c/\(wr.setCell ⟨bb,t,none⟩ (.bool true)).heap[bG]?=some (.cells gb 27 (0,0)) /\
   (wr.setCell ⟨bb,t,none⟩ (.bool true)).heap[bb]?=some (.cells ((Array.range G.sorts.length).map fun k=>.bool ((fun k=>if k=t then true else begun k) k)) 4 (0,0))/\∀ D ∈ ds,(wr.setCell ⟨bb,t,none⟩ (.bool true)).heap[D]?=some (.deferred (some [])):=by
 have hk:∀ q,q ≠ bb->(wr.setCell ⟨bb,t,none⟩ (.bool true)).heap[q]?=wr.heap[q]?:=fun q hq=>Below.heap_setCell _ _ _ _ hq
 refine ⟨h.out.keep (hk _ ho) (hk _ h.gb) (h.out.bel.setCell hw _),(hk _ hG).trans h.box,?_,fun D hD=>(hk _ (h.dne hD).2.2).trans (h.ds D hD)⟩
 have e:((Array.range G.sorts.length).map fun k=>Value.bool (begun k)).setIfInBounds t (.bool true)=(Array.range G.sorts.length).map fun k=>Value.bool ((fun k=>if k=t then true else begun k) k):=by
  refine Array.ext (by simp) fun k h1 h2=>?_
  have h3:k < ((Array.range G.sorts.length).map fun k=>Value.bool (begun k)).size:=by simpa using h1
  rw [Array.getElem_setIfInBounds h3,Array.getElem_map,Array.getElem_map,Array.getElem_range]
  by_cases hkt:t=k
  ·simp [hkt]
  ·have:¬ k=t:=fun e=>hkt e.symm
   simp [hkt,this]
 rw [heap_setCell_same _ bb t _ 4 _ h.bools,e]
end Go.Proofs.YticmnfmijdgmbaaGreatDoor
