/- inst.Valid. -/
import Derived.Test.YticmnfmijdgmbaaGreatDoorGc
import Derived.BigQuiet
import Derived.WalkSmall
import Derived.Maps.AppendAt
import Derived.Laws.AppendOwn
import Derived.Test.YticmnfmijdgmbaaGreatDoorGa
import Derived.Test.YticmnfmijdgmbaaGreatDoorSm
import Derived.Shelf.SlSortCmp.WholeK
import Derived.Shelf.SlSortCmp.NoneTotal
import Derived.Shelf.Lay
import Derived.Ground.SlsfProg
set_option linter.unusedVariables false
set_option linter.unusedSimpArgs false
namespace Go.Proofs.YticmnfmijdgmbaaGreatDoor
open Go Go.RowKit Go.Lib
def pairB (nt:Nat) (q:Int × Int):Bool:=decide (0<=q.1/\q.1 < nt) && decide (0<=q.2/\q.2 < nt)
def validB (G:GD):Bool:=
 decide (G.terms.length<=60) && decide (G.sorts.length<=60) && decide (G.prods.length<=120) && G.prods.all (prodB G.terms.length G.sorts.length) && G.over.all (pairB G.terms.length) &&
  (decide (0<=G.start/\G.start < G.sorts.length) && riseB G.sorts && riseB (G.prods.map (·.lab)) && riseB G.terms)
theorem all_up {α:Type} {l:List α} {f:α->Bool} {d:α} (h:∀ j,j < l.length->f (l.getD j d)=true):l.all f=true:=by
 rw [List.all_eq_true]
 intro x hx
 obtain ⟨j,hj,rfl⟩:=List.getElem_of_mem hx
 have:=h j hj
 rwa [gdQ,geQ hj] at this
theorem all_no {α:Type} {l:List α} {f:α->Bool} {d:α} {j:Nat} (hj:j < l.length) (h:f (l.getD j d)=false):l.all f=false:=by
 rw [Bool.eq_false_iff]
 intro h'
 rw [List.all_eq_true] at h'
 have:=h' _ (List.getElem_mem hj)
 rw [gdQ,geQ hj] at h
 rw [show f l[j]=false from h] at this
 cases this
theorem cell_alloc {w:World} {p:Addr} {v:Value} {o:Obj} (h:w.cell? p=some v):(w.alloc o).cell? p=some v:=
 cell_below ((Below.refl _ _).alloc (Nat.le_refl _) o) h
set_option maxRecDepth 100000 in
set_option maxHeartbeats 1000000 in
theorem Valid_any {G:GD} {gv tv ov sv pv:Value} {tf:Nat->Nat->Value} {rv:Nat->Value} {w:World} (h:GrAt w gv G tv ov sv pv tf rv) :
  Calls Tryz.prog 58 #[gv] w fun e w'=>e=.returned (.bool (validB G))/\Below w.heap.size w w':=by
 obtain ⟨W1,B,hW1,hB,c0,c1,c2,c3,c4,hG,hb,hsz⟩:=gr_box h
 have hV:validB G=(decide (G.terms.length<=60) && decide (G.sorts.length<=60) && decide (G.prods.length<=120) && G.prods.all (prodB G.terms.length G.sorts.length) && G.over.all (pairB G.terms.length) &&
  (decide (0<=G.start/\G.start < G.sorts.length) && riseB G.sorts && riseB (G.prods.map (·.lab)) && riseB G.terms)):=rfl
 have hgv:=hG.eq
 subst hgv
 have ht:=hG.terms
 have ho:=hG.over
 have hs:=hG.sorts
 have hp:=hG.prods
 obtain ⟨ta,tc,rfl,htn,_⟩:=ht
 obtain ⟨oa,oc,rfl,hon,ho⟩:=ho
 obtain ⟨sa,sc,rfl,hsn,_⟩:=hs
 obtain ⟨pa,pc,rfl,hpn,hp⟩:=hp
 by_cases hbig:60 < G.terms.length\/60 < G.sorts.length\/120 < G.prods.length
 case pos =>
  have hVF:validB G=false:=by
   rw [hV]
   have:(decide (G.terms.length<=60) && decide (G.sorts.length<=60) && decide (G.prods.length<=120))=false:=by
    rw [Bool.eq_false_iff]; simp only [ne_eq,Bool.and_eq_true,decide_eq_true_eq]; omega
   rw [this]; simp
  generalize validB G=V at *
  subst hVF
  clear hV h ho hp hG
  generalize G.terms.length=nt at *
  generalize G.sorts.length=ns at *
  generalize G.prods.length=np at *
  rcases hbig with h1 | ⟨h2⟩ | ⟨h3⟩
  all_goals
   go_enter Tryz.func58,Tryz.ntmps58
   go_wp2_with fail
   all_goals
    rw [<-hW1]
    go_ret
    exact ⟨rfl,hb⟩
 have hb60:(G.terms.length:Int)<=60/\(G.sorts.length:Int)<=60/\(G.prods.length:Int)<=120:=by omega
 obtain ⟨n60,s60,p120⟩:=hb60
 have HG:=hid hG
 have kp:=hid (fun (W:World) (hb:Below W1.heap.size W1 W) (k:Nat) (hk:k < G.prods.length)=>prodValid_any (hG.mono hb) (G.prods.getD k default) (rv k) ((hG.rights k hk).mono hb))
 have hV1:Hid (∀ j,j < G.prods.length->prodB G.terms.length G.sorts.length (G.prods.getD j default)=false->validB G=false):=fun j hj h=>by
  rw [hV,all_no hj h]; simp
 have hV2:Hid (∀ j,j < G.over.length->pairB G.terms.length (G.over.getD j (0,0))=false->validB G=false):=fun j hj h=>by
  rw [hV,all_no hj h]; simp
 have hV3:Hid ((∀ j,j < G.prods.length->prodB G.terms.length G.sorts.length (G.prods.getD j default)=true)->(∀ j,j < G.over.length->pairB G.terms.length (G.over.getD j (0,0))=true) ->
   validB G=(decide (0<=G.start/\G.start < G.sorts.length) && riseB G.sorts && riseB (G.prods.map (·.lab)) && riseB G.terms)):=fun h1 h2=>by
  rw [hV,all_up h1,all_up h2,decide_eq_true (by omega:G.terms.length<=60),decide_eq_true (by omega:G.sorts.length<=60),decide_eq_true (by omega:G.prods.length<=120)]
  simp
 have k1:=hid (fun (W:World) (hb:Below W1.heap.size W1 W)=>rise_s _ _ W (hG.sorts.mono hb))
 have k2:=hid (fun (W:World) (hb:Below W1.heap.size W1 W)=>rise_p _ _ _ W (hG.prods.mono hb))
 have k3:=hid (fun (W:World) (hb:Below W1.heap.size W1 W)=>rise_t _ _ _ W (hG.terms.mono hb))
 clear hV hG h hbig
 generalize validB G=V at *
 generalize riseB G.sorts=v1 at *
 generalize riseB (G.prods.map (·.lab))=v2 at *
 generalize riseB G.terms=v3 at *
 generalize G.start=st at *
 generalize hnt:G.terms.length=nt at *
 generalize hns:G.sorts.length=ns at *
 generalize hnp:G.prods.length=np at *
 generalize hno:G.over.length=no at *
 go_enter Tryz.func58,Tryz.ntmps58
 go_wp2_with fail
 rw [<-hW1,<-hB]
 clear hW1 hB
 go_loopw [26] (fun i wr=>∃ k:Nat,k<=np/\i=.int .i64 (k:Int)/\Below W1.heap.size W1 wr/\∀ j,j < k->prodB nt ns (G.prods.getD j default)=true) (fun i _=>np - (RowKit.intOf i).toNat)
 case atStart=>exact ⟨0,by omega,rfl,Below.refl _ _,fun j hj=>by omega⟩
 case round =>
  obtain ⟨k,hk,rfl,hw,hj⟩:=hrel
  have HJ:=hid hj
  clear hj
  have hsw:=hw.size
  have f0:=cell_below hw c0
  have f1:=cell_below hw c1
  have f2:=cell_below hw c2
  have f3:=cell_below hw c3
  have f4:=cell_below hw c4
  by_cases hlt:k < np
  ·obtain ⟨b,off,rfl,hc⟩:=hp (by omega)
   obtain ⟨d0,d1,d2,d3⟩:=hc k hlt
   replace d0:=cell_below hw d0
   replace d1:=cell_below hw d1
   replace d2:=cell_below hw d2
   replace d3:=cell_below hw d3
   have HS:Hid (prodB nt ns (G.prods.getD k default)=true->∀ j,j < k + 1->prodB nt ns (G.prods.getD j default)=true):=fun h j hj=>by
    rcases Nat.lt_or_ge j k with h1 | h1
    ·exact HJ.out j h1
    ·obtain rfl:j=k:=by omega
     exact h
   have HN:=hid (hV1.out k hlt)
   have i1:(k:Int) < (np:Int):=by omega
   have i0:(0:Int)<=(k:Int):=by omega
   have kp2:=hid fun W hb=>kp.out W hb k hlt
   obtain ⟨⟨ra,rc,hrk,_⟩,_⟩:=HG.out.rights k (by omega)
   rw [hrk] at d2 kp2
   clear hrk
   clear hc HJ hV1 hV2 hV3 hp ho kp k1 k2 k3 c0 c1 c2 c3 c4
   generalize prodB nt ns (G.prods.getD k default)=pb at *
   generalize G.prods.getD k default=P at *
   generalize P.rs.length=rl at *
   have a0:=fun o=>cell_alloc (o:=o) f0
   have a1:=fun o=>cell_alloc (o:=o) f1
   have a2:=fun o=>cell_alloc (o:=o) f2
   have a3:=fun o=>cell_alloc (o:=o) f3
   have a4:=fun o=>cell_alloc (o:=o) f4
   go_wp2_with fail
   refine (kp2.out _ (hw.alloc hsw _)).mono ?_
   rintro e w2 ⟨rfl,hb2⟩
   replace hw:=(hw.alloc hsw _).trans (hb2.mono (by simp; omega))
   cases pb
   ·have HN2:=hid (HN.out rfl)
    go_wp2
    go_ret
    exact ⟨by rw [HN2.out] <;> rfl,hb.trans (hw.mono hsz)⟩
   ·have HS2:=hid (HS.out rfl)
    go_wp2
    exact ⟨⟨k + 1,by omega,by go_num,hw,HS2.out⟩,by simp [RowKit.intOf]; omega⟩
  ·have hkk:k=np:=by omega
   subst hkk
   replace hV3:=hid (hV3.out HJ.out)
   clear HJ hV1 hp kp
   go_wp2_with fail
   clear f0 f1 f2 f3 f4
   go_loopw [38] (fun i wr=>∃ k:Nat,k<=no/\i=.int .i64 (k:Int)/\Below W1.heap.size W1 wr/\∀ j,j < k->pairB nt (G.over.getD j (0,0))=true) (fun i _=>no - (RowKit.intOf i).toNat)
   case atStart=>exact ⟨0,by omega,rfl,hw,fun j hj=>by omega⟩
   case round =>
    clear hw hsw
    obtain ⟨q,hq,rfl,hw,hj⟩:=hrel
    have HJ:=hid hj
    clear hj
    have hsw:=hw.size
    have f0:=cell_below hw c0
    have f1:=cell_below hw c1
    have f2:=cell_below hw c2
    have f3:=cell_below hw c3
    have f4:=cell_below hw c4
    by_cases hlt2:q < no
    ·obtain ⟨b2,off2,rfl,hc⟩:=ho (by omega)
     obtain ⟨d0,d1⟩:=hc q hlt2
     replace d0:=cell_below hw d0
     replace d1:=cell_below hw d1
     have HS:Hid (pairB nt (G.over.getD q (0,0))=true->∀ j,j < q + 1->pairB nt (G.over.getD j (0,0))=true):=fun h j hj=>by
      rcases Nat.lt_or_ge j q with h1 | h1
      ·exact HJ.out j h1
      ·obtain rfl:j=q:=by omega
       exact h
     have HN:=hid (hV2.out q hlt2)
     have i1:(q:Int) < (no:Int):=by omega
     have i0:(0:Int)<=(q:Int):=by omega
     have a0:=fun o=>cell_alloc (o:=o) f0
     have hpb:pairB nt (G.over.getD q (0,0))=(decide (0<=(G.over.getD q (0,0)).1/\(G.over.getD q (0,0)).1 < nt) && decide (0<=(G.over.getD q (0,0)).2/\(G.over.getD q (0,0)).2 < nt)):=rfl
     have m1:=hid fun w=>among_is (G.over.getD q (0,0)).1 nt w
     have m2:=hid fun w=>among_is (G.over.getD q (0,0)).2 nt w
     clear hc HJ hV2 hV3 ho k1 k2 k3 c0 c1 c2 c3 c4
     generalize pairB nt (G.over.getD q (0,0))=pb at *
     generalize decide (0<=(G.over.getD q (0,0)).1/\(G.over.getD q (0,0)).1 < nt)=z1 at *
     generalize decide (0<=(G.over.getD q (0,0)).2/\(G.over.getD q (0,0)).2 < nt)=z2 at *
     generalize (G.over.getD q (0,0)).1=x1 at *
     generalize (G.over.getD q (0,0)).2=x2 at *
     have hw2:=hw.alloc hsw (.cells #[.int .i64 x1,.int .i64 x2] 94)
     cases z1
     ·obtain rfl:pb=false:=hpb
      have HN2:=hid (HN.out rfl)
      go_wp2_with fail
      refine (m1.out _).mono ?_
      rintro e w' ⟨rfl,rfl⟩
      go_wp2
      go_ret
      exact ⟨by rw [HN2.out] <;> rfl,hb.trans (hw2.mono hsz)⟩
     ·cases z2
      ·obtain rfl:pb=false:=hpb
       have HN2:=hid (HN.out rfl)
       go_wp2_with fail
       refine (m1.out _).mono ?_
       rintro e w' ⟨rfl,rfl⟩
       go_wp2_with fail
       refine (m2.out _).mono ?_
       rintro e w' ⟨rfl,rfl⟩
       go_wp2
       go_ret
       exact ⟨by rw [HN2.out] <;> rfl,hb.trans (hw2.mono hsz)⟩
      ·obtain rfl:pb=true:=hpb
       have HS2:=hid (HS.out rfl)
       go_wp2_with fail
       refine (m1.out _).mono ?_
       rintro e w' ⟨rfl,rfl⟩
       go_wp2_with fail
       refine (m2.out _).mono ?_
       rintro e w' ⟨rfl,rfl⟩
       go_wp2
       exact ⟨⟨q + 1,by omega,by go_num,hw2,HS2.out⟩,by simp [RowKit.intOf]; omega⟩
    ·have hkk:q=no:=by omega
     subst hkk
     replace hV3:=hid (hV3.out HJ.out)
     clear HJ hV2
     have m0:=hid fun w=>among_is st ns w
     generalize decide (0<=st/\st < (ns:Int))=v0 at *
     cases v0
     ·have HV:Hid (V=false):=hV3.out
      go_wp2_with fail
      refine (m0.out _).mono ?_
      rintro e w' ⟨rfl,rfl⟩
      go_wp2
      go_ret
      exact ⟨by rw [HV.out] <;> rfl,hb.trans (hw.mono hsz)⟩
     cases v1
     ·have HV:Hid (V=false):=hV3.out
      go_wp2_with fail
      refine (m0.out _).mono ?_
      rintro e w' ⟨rfl,rfl⟩
      go_wp2_with fail
      refine (k1.out _ hw).mono ?_
      rintro e w5 ⟨rfl,hb5⟩
      replace hw:=hw.trans (hb5.mono hw.size)
      go_wp2
      go_ret
      exact ⟨by rw [HV.out] <;> rfl,hb.trans (hw.mono hsz)⟩
     cases v2
     ·have HV:Hid (V=false):=hV3.out
      go_wp2_with fail
      refine (m0.out _).mono ?_
      rintro e w' ⟨rfl,rfl⟩
      go_wp2_with fail
      refine (k1.out _ hw).mono ?_
      rintro e w5 ⟨rfl,hb5⟩
      replace hw:=hw.trans (hb5.mono hw.size)
      replace f3:=cell_below hb5 f3
      go_wp2_with fail
      refine (k2.out _ hw).mono ?_
      rintro e w6 ⟨rfl,hb6⟩
      replace hw:=hw.trans (hb6.mono hw.size)
      go_wp2
      go_ret
      exact ⟨by rw [HV.out] <;> rfl,hb.trans (hw.mono hsz)⟩
     have HV:Hid (V=v3):=hV3.out
     go_wp2_with fail
     refine (m0.out _).mono ?_
     rintro e w' ⟨rfl,rfl⟩
     go_wp2_with fail
     refine (k1.out _ hw).mono ?_
     rintro e w5 ⟨rfl,hb5⟩
     replace hw:=hw.trans (hb5.mono hw.size)
     replace f3:=cell_below hb5 f3
     replace f0:=cell_below hb5 f0
     go_wp2_with fail
     refine (k2.out _ hw).mono ?_
     rintro e w6 ⟨rfl,hb6⟩
     replace hw:=hw.trans (hb6.mono hw.size)
     replace f0:=cell_below hb6 f0
     go_wp2_with fail
     refine (k3.out _ hw).mono ?_
     rintro e w7 ⟨rfl,hb7⟩
     replace hw:=hw.trans (hb7.mono hw.size)
     go_wp2
     go_ret
     exact ⟨by rw [HV.out] <;> rfl,hb.trans (hw.mono hsz)⟩
open X14 (It)
theorem below_drewN' {B:Nat} {a w:World} (h:Below B a w) (n:Nat):Below B a (w.drewN n):=⟨h.os,h.tape,h.output,h.size,h.block⟩
theorem wp_region_below {P:Program} {id:Nat} {Q:Exit->Act->World->Prop} {a:Act} {w:World} {l:List Oper} (hm:P.follows .mixedOrders=true) (hB:Region.lexB .any l.toArray=true)
  (h:wpQuiet P l.toArray (Below w.heap.size w) (fun a'=>∀ w',Below w.heap.size w w'->Q .normal a' w') l a):(Code.region id l.toArray true).wp P Q a w:=
 wp_region_quiet (C:=Below w.heap.size w) hm hB (below_drewN' (Below.refl _ _) 1) (by simpa using h)
theorem below_call {P:Program} {f:FuncId} {args:Array Value} {n:Nat} {w0 w':World} {v:Value} (hC:Below n w0 w') (hn:n<=w0.heap.size) (h:Calls P f args w' fun e w''=>e=.returned v/\Below w'.heap.size w' w'') :
  Calls P f args w' fun e w''=>e=.returned v/\Below n w0 w'':=
 h.mono fun _ _ ⟨he,hb⟩=>⟨he,hC.trans (hb.mono (Nat.le_trans hn hC.size))⟩
theorem cell_bel {B:Nat} {W w:World} (h:Below B W w) {b off:Nat} {x:Value} (hb:b < B) (hx:W.cell? ⟨b,off,none⟩=some x):w.cell? ⟨b,off,none⟩=some x:=(World.cell?_of_block (a:=⟨b,off,none⟩) (h.block b hb)).trans hx
theorem owns_kept {w w':World} {B:Nat} {e:TypeId} {sz:Nat} {v:Value} {n:Nat} {xs:List Value} (h:w.ownsRow B e sz v n xs) (hb:∀ g,v.ownBlock=some g->w'.heap[g]?=w.heap[g]?):w'.ownsRow B e sz v n xs:=by
 refine ⟨h.1,?_⟩
 rcases h.2 with hn | ⟨g,cap,cur,rfl,hB,hg,rest⟩
 ·exact .inl hn
 ·exact .inr ⟨g,cap,cur,rfl,hB,(hb g rfl).trans hg,rest⟩
theorem owns_lt {w:World} {B:Nat} {e:TypeId} {sz:Nat} {v:Value} {n:Nat} {xs:List Value} (h:w.ownsRow B e sz v n xs) (g:Nat) (hg:v.ownBlock=some g):B<=g/\g < w.heap.size:=by
 rcases h.2 with ⟨rfl,_⟩ | ⟨g',cap,cur,rfl,hB,hh,_⟩
 ·cases hg
 ·injection hg with hg; subst hg; exact ⟨hB,(ltQ hh)⟩
theorem own_shape {w:World} {B n sz:Nat} {e:TypeId} {v:Value} {xs:List Value} (h:w.ownsRow B e sz v n xs):∃ o c,v=.slice o n c:=by
 rcases h.2 with ⟨rfl,h0⟩ | ⟨g,cap,cur,rfl,_⟩
 ·exact ⟨none,0,by rw [h0]⟩
 ·exact ⟨_,_,rfl⟩
theorem own_below {w w':World} {B n sz:Nat} {e:TypeId} {v:Value} {xs:List Value} (h:w.ownsRow B e sz v n xs) (hb:Below w.heap.size w w'):w'.ownsRow B e sz v n xs:=
 owns_kept h fun g hg=>hb.block g (owns_lt h g hg).2
theorem new_block (w:World) (o:Obj):(w.alloc o).heap[w.heap.size]?=some o:=heap_alloc_new _ _
theorem add_one_cell {b off j:Nat} : (⟨b,off,none⟩:Addr).add j=⟨b,off + j,none⟩:=by unfold Addr.add; split <;> simp_all
structure KeptX (m b:Nat) (W W':World):Prop where
 os:W'.os=W.os
 tape:W'.tape=W.tape
 output:W'.output=W.output
 size:W.heap.size<=W'.heap.size
 block:∀ g,g < m->g ≠ b->W'.heap[g]?=W.heap[g]?
theorem KeptX.refl (m b:Nat) (W:World):KeptX m b W W:=⟨rfl,rfl,rfl,Nat.le_refl _,fun _ _ _=>rfl⟩
theorem KeptX.trans {m b:Nat} {A B C:World} (h:KeptX m b A B) (k:KeptX m b B C):KeptX m b A C:=⟨k.os.trans h.os,k.tape.trans h.tape,k.output.trans h.output,Nat.le_trans h.size k.size,fun g h1 h2=>(k.block g h1 h2).trans (h.block g h1 h2)⟩
theorem KeptX.below {m b:Nat} {A B C:World} (h:KeptX m b A B) (hm:m<=B.heap.size) (k:Below B.heap.size B C):KeptX m b A C:=h.trans ⟨k.os,k.tape,k.output,k.size,fun g h1 _=>k.block g (by omega)⟩
theorem KeptX.bel {m b n:Nat} {A B C:World} (h:KeptX m b B C) (k:Below n A B) (hn:n<=m) (hb:n<=b):Below n A C:=⟨h.os.trans k.os,h.tape.trans k.tape,h.output.trans k.output,Nat.le_trans k.size h.size,fun g hg=>(h.block g (by omega) (by omega)).trans (k.block g hg)⟩
def icells (l:List It):List Value:=l.flatMap fun x=>[.int .i64 x.1,.int .i64 x.2]
theorem icells_snoc (l:List It) (x:It):icells (l ++ [x])=icells l ++ [.int .i64 x.1,.int .i64 x.2]:=by simp [icells]
theorem icells_get:∀ (l:List It) (i:Nat) (h:i < l.length),(icells l)[i * 2]?=some (.int .i64 l[i].1)/\(icells l)[i * 2 + 1]?=some (.int .i64 l[i].2)
 | x :: l,0,_=>⟨rfl,rfl⟩
 | x :: l,i + 1,h=>by
  have:=icells_get l i (by simpa using h)
  have e:icells (x :: l)=.int .i64 x.1 :: .int .i64 x.2 :: icells l:=rfl
  rw [e,show (i + 1) * 2=i * 2 + 1 + 1 by omega,show i * 2 + 1 + 1 + 1=(i * 2 + 1) + 1 + 1 by omega]
  simpa using this
theorem items_own {w:World} {B c n:Nat} {e:TypeId} {o:Option Addr} {l:List It} (h:w.ownsRow B e 2 (.slice o n c) n (icells l)) {i:Nat} (hi:i < l.length) (hn:l.length=n):∃ g,o=some ⟨g,0,none⟩/\g < w.heap.size/\w.cell? ⟨g,i * 2,none⟩=some (.int .i64 l[i].1)/\w.cell? ⟨g,i * 2 + 1,none⟩=some (.int .i64 l[i].2):=by
 subst hn
 obtain ⟨k0,k1⟩:=icells_get l i hi
 rcases h.2 with ⟨h1,h0⟩ | ⟨g,cap,cur,h1,hB,hg,h2,h3,h4,h5⟩
 ·omega
 ·injection h1 with h1
  subst h1
  refine ⟨g,rfl,(ltQ hg),?_,?_⟩
  ·rw [coQ hg,<-Array.getElem?_toList,<-List.getElem?_take_of_lt (show i * 2 < l.length * 2 by omega),h5,k0]
  ·rw [coQ hg,<-Array.getElem?_toList,<-List.getElem?_take_of_lt (show i * 2 + 1 < l.length * 2 by omega),h5,k1]
theorem info37:(Tryz.prog.info? 60).map (fun i=>(i.zero,i.size,i.bytes))=some (some (.agg #[.int .i64 0,.int .i64 0]),2,16):=by kernel_rfl
theorem wpList_push37 {ops:Array Oper} {rest:List Oper} {o:Oper} {a:Act} {w:World} {Q:Exit->Act->World->Prop} (hgd:o.guard=none) (s x:Operand) (ho:o.op=.call {callee:=.builtin .append,args:=#[s,x],argTypes:=#[45,45]})
  (base:Nat) (v:Value) (n:Nat) (xs:List Value) (hs:a.eval s=v) (hown:w.ownsRow base 60 2 v n xs) (g:Nat) (hx:a.eval x=.slice (some ⟨g,0,none⟩) 1 1) (p q:Int) (hb:w.heap[g]?=some (.cells #[.int .i64 p,.int .i64 q] 60 (0,0))) (hn:n<=1000000) (hbase:base<=w.heap.size)
  (h:∀ v' w',w'.ownsRow base 60 2 v' (n + 1) (xs ++ [.int .i64 p,.int .i64 q])->w.grownBy w' v.ownBlock->(v'.ownBlock=v.ownBlock\/v'.ownBlock=some w.heap.size)->wpList Tryz.prog ops Q rest (a.put o.dst v') w'):wpList Tryz.prog ops Q (o :: rest) a w:=by
 obtain ⟨i,hi,h0,h1,h2⟩:=info_parts info37
 refine wpList_append_own_at w hgd s x 45 ho base 60 i _ 2 16 Tryz.underlying45 hi h0 h1 h2 rfl (by decide) v n xs hs hown ⟨g,0,none⟩ 1 1 [.int .i64 p,.int .i64 q] hx rfl (fun j u hj=>?_) (fun u hu=>?_) (by unfold maxLen; omega) ?_ hbase (fun v' w' a1 a2 _ a4=>h v' w' a1 a2 a4)
 ·rw [add_one_cell,Nat.zero_add,coQ hb,<-hj]
  simp
 ·simp at hu; rcases hu with rfl | rfl <;> rfl
 ·omega
end Go.Proofs.YticmnfmijdgmbaaGreatDoor

namespace Go.Proofs
open Go Go.Shelf Go.RowKit Go.Lib Go.Sort
shelf_lay_g SlLaysF0.n6 Slsf 6 at Tryz 128 as Tryz.sortIt
end Go.Proofs
namespace Go.Proofs.YticmnfmijdgmbaaGreatDoor
open Go Go.RowKit Go.Lib Go.Sort
open X14 (It Less Ord)
theorem isNaN_any (x:Int) (w:World):Calls Tryz.prog 138 #[.int .i64 x] w fun e w'=>e=.returned (.bool false)/\w'=w:=by
 go_enter Tryz.func138,Tryz.ntmps138
 go_wp2
 go_ret
 exact ⟨by simp,rfl⟩
set_option maxHeartbeats 1000000 in
theorem compare_any (x y:Int) (w:World):Calls Tryz.prog 131 #[.int .i64 x,.int .i64 y] w fun e w'=>e=.returned (.int .i64 (Lib.compareInt x y))/\w'=w:=by
 have K:=hid fun (z:Int) (W:World)=>isNaN_any z W
 obtain ⟨r,hr⟩:=nmQ (Lib.compareInt x y)
 have HR:=hid hr
 rw [hr]
 clear hr
 by_cases h1:x < y
 ·have d1:decide (x < y)=true:=decide_eq_true h1
  have e:r=-1:=by rw [<-HR.out]; unfold Lib.compareInt; rw [if_pos h1]
  subst e
  go_enter Tryz.func131,Tryz.ntmps131
  go_wp2_with fail
  refine (K.out _ _).mono ?_
  rintro e w' ⟨rfl,rfl⟩
  go_wp2_with fail
  refine (K.out _ _).mono ?_
  rintro e w' ⟨rfl,rfl⟩
  go_wp2_with fail
  go_ret
  exact ⟨rfl,rfl⟩
 ·have d1:decide (x < y)=false:=decide_eq_false h1
  by_cases h2:y < x
  ·have d2:decide (y < x)=true:=decide_eq_true h2
   have e:r=1:=by rw [<-HR.out]; unfold Lib.compareInt; rw [if_neg h1,if_pos h2]
   subst e
   go_enter Tryz.func131,Tryz.ntmps131
   go_wp2_with fail
   refine (K.out _ _).mono ?_
   rintro e w' ⟨rfl,rfl⟩
   go_wp2_with fail
   refine (K.out _ _).mono ?_
   rintro e w' ⟨rfl,rfl⟩
   go_wp2_with fail
   go_ret
   exact ⟨rfl,rfl⟩
  ·have d2:decide (y < x)=false:=decide_eq_false h2
   have e:r=0:=by rw [<-HR.out]; unfold Lib.compareInt; rw [if_neg h1,if_neg h2]
   subst e
   go_enter Tryz.func131,Tryz.ntmps131
   go_wp2_with fail
   refine (K.out _ _).mono ?_
   rintro e w' ⟨rfl,rfl⟩
   go_wp2_with fail
   refine (K.out _ _).mono ?_
   rintro e w' ⟨rfl,rfl⟩
   go_wp2_with fail
   go_ret
   exact ⟨rfl,rfl⟩
def orX (a b:Int):Int:=if a=0 then b else a
set_option maxHeartbeats 2000000 in
theorem or_any (a b:Int) (g:Nat) (w:World) (h:w.heap[g]?=some (.cells #[.int .i64 a,.int .i64 b] 3 (0,0))):Calls Tryz.prog 130 #[.slice (some ⟨g,0,none⟩) 2 2] w fun e w'=>e=.returned (.int .i64 (orX a b))/\w'=w:=by
 have c0:w.cell? ⟨g,0,none⟩=some (.int .i64 a):=coQ h 0
 have c1:w.cell? ⟨g,1,none⟩=some (.int .i64 b):=coQ h 1
 obtain ⟨r,hr⟩:=nmQ (orX a b)
 have HR:=hid hr
 rw [hr]
 clear hr h
 go_enter Tryz.func130,Tryz.ntmps130
 go_wp2_with fail
 go_loop [8,5] (fun i v=>∃ k:Nat,k<=2/\i=.int .i64 (k:Int)/\(1<=k->a=0)/\(2<=k->b=0)) (fun i _=>2 - (RowKit.intOf i).toNat)
 case atStart=>exact ⟨0,by omega,rfl,by omega,by omega⟩
 case round =>
  obtain ⟨k,hk,rfl,h1,h2⟩:=hrel
  match k,hk with
  | 0,_ =>
   clear h1 h2
   by_cases ha:a=0
   ·subst ha
    go_wp2_with fail
    refine ⟨⟨1,by omega,rfl,by simp,by omega⟩,?_⟩
    decide
   ·have t0:((a:Int) != 0)=true:=by simp [ha]
    have t1:((a:Int) == 0)=false:=by simp [ha]
    have e:r=a:=by rw [<-HR.out]; unfold orX; rw [if_neg ha]
    subst e
    go_wp2_with fail
    go_ret
    exact ⟨rfl,by first | trivial | rfl⟩
  | 1,_ =>
   have ha:=h1 (by omega)
   subst ha
   clear h1 h2
   by_cases hb:b=0
   ·subst hb
    go_wp2_with fail
    refine ⟨⟨2,by omega,rfl,by simp,by simp⟩,?_⟩
    decide
   ·have t0:((b:Int) != 0)=true:=by simp [hb]
    have t1:((b:Int) == 0)=false:=by simp [hb]
    have e:r=b:=by rw [<-HR.out]; unfold orX; rw [if_pos rfl]
    subst e
    go_wp2_with fail
    go_ret
    exact ⟨rfl,by first | trivial | rfl⟩
  | 2,_ =>
   have ha:=h1 (by omega)
   have hb:=h2 (by omega)
   subst ha
   subst hb
   have e:r=0:=by rw [<-HR.out]; rfl
   subst e
   clear h1 h2
   go_wp2_with fail
   go_ret
   exact ⟨rfl,by first | trivial | rfl⟩
def cmpX (x y:It):Int:=orX (Lib.compareInt x.1 y.1) (Lib.compareInt x.2 y.2)
def encI (x:It):List Value:=[.int .i64 x.1,.int .i64 x.2]
theorem cmp_less (x y:It):ltOf cmpX x y=true ↔ Less x y:=by
 unfold ltOf cmpX orX Lib.compareInt Less
 rw [decide_eq_true_iff]
 by_cases h1:x.1 < y.1
 ·simp [h1]
 ·by_cases h2:y.1 < x.1
  ·have:¬ x.1=y.1:=by omega
   simp [h1,h2,this]
  ·have:x.1=y.1:=by omega
   by_cases h3:x.2 < y.2
   ·simp [h1,h2,h3,this]
   ·by_cases h4:y.2 < x.2 <;> simp [h1,h2,h3,h4]
theorem cmp_not (x y:It):ltOf cmpX x y=false ↔ ¬ Less x y:=by rw [<-cmp_less,Bool.not_eq_true]
theorem cmp_swo:SWO (ltOf cmpX) where
 irrefl x:=(cmp_not x x).2 X14.Less.irrefl
 trans x y z h1 h2:=(cmp_less x z).2 (((cmp_less x y).1 h1).trans ((cmp_less y z).1 h2))
 ntrans x y z h1 h2:=by
  rw [cmp_not] at *
  unfold Less at *
  omega
theorem cmp_total (x y:It) (h1:ltOf cmpX x y=false) (h2:ltOf cmpX y x=false):x=y:=X14.Less.total ((cmp_not x y).1 h1) ((cmp_not y x).1 h2)
set_option maxRecDepth 100000 in
set_option maxHeartbeats 4000000 in
theorem compareItems_any (x y:It) (W:World):Calls Tryz.prog 129 #[.agg #[.int .i64 x.1,.int .i64 x.2],.agg #[.int .i64 y.1,.int .i64 y.2]] W fun e w'=>e=.returned (.int .i64 (cmpX x y))/\∃ q os',w'=grow (W.drewN q) os':=by
 obtain ⟨W1,e1⟩:=nmQ (W.alloc (.cells #[.int .i64 x.1,.int .i64 x.2] 60))
 obtain ⟨W2,e2⟩:=nmQ (W1.alloc (.cells #[.int .i64 y.1,.int .i64 y.2] 60))
 obtain ⟨we,ewe⟩:=nmQ (W2.drew)
 obtain ⟨a,ha⟩:=nmQ (Lib.compareInt x.1 y.1)
 obtain ⟨b,hb⟩:=nmQ (Lib.compareInt x.2 y.2)
 obtain ⟨w3,e3⟩:=nmQ (we.alloc (.cells #[.int .i64 a,.int .i64 b] 3))
 have hb2:Below W1.heap.size W1 W2:=baQ e2
 have hbe:Below W2.heap.size W2 we:=bdQ ewe
 have n1:W1.heap[W.heap.size]?=some (.cells #[.int .i64 x.1,.int .i64 x.2] 60 (0,0)):=nbQ e1
 have n2:W2.heap[W1.heap.size]?=some (.cells #[.int .i64 y.1,.int .i64 y.2] 60 (0,0)):=nbQ e2
 have n3:w3.heap[we.heap.size]?=some (.cells #[.int .i64 a,.int .i64 b] 3 (0,0)):=nbQ e3
 have m1:we.heap[W.heap.size]?=some (.cells #[.int .i64 x.1,.int .i64 x.2] 60 (0,0)):=(hbe.block _ (Nat.lt_of_lt_of_le (ltQ n1) hb2.size)).trans ((hb2.block _ (ltQ n1)).trans n1)
 have m2:we.heap[W1.heap.size]?=some (.cells #[.int .i64 y.1,.int .i64 y.2] 60 (0,0)):=(hbe.block _ (ltQ n2)).trans n2
 have hS:we.cell? ⟨W.heap.size,0,none⟩=some (.int .i64 x.1)/\we.cell? ⟨W.heap.size,1,none⟩=some (.int .i64 x.2)/\we.cell? ⟨W1.heap.size,0,none⟩=some (.int .i64 y.1)/\we.cell? ⟨W1.heap.size,1,none⟩=some (.int .i64 y.2):=⟨coQ m1 0,coQ m1 1,coQ m2 0,coQ m2 1⟩
 have HEND:=hid (show ∃ q os',w3=grow (W.drewN q) os' from ⟨1,#[.cells #[.int .i64 x.1,.int .i64 x.2] 60 (0,0),.cells #[.int .i64 y.1,.int .i64 y.2] 60 (0,0),.cells #[.int .i64 a,.int .i64 b] 3 (0,0)],by
  rw [<-e3,<-ewe,<-e2,<-e1]
  have h1:∀ (o1 o2:Obj),((W.alloc o1).alloc o2).drew=grow (W.drewN 1) #[o1,o2]:=fun o1 o2=>by rw [alloc_eq_grow,alloc_eq_grow,grow_grow]; rfl
  rw [h1,alloc_eq_grow,grow_grow]
  rfl⟩)
 have KA:=hid (show ∀ W,Calls Tryz.prog 131 #[.int .i64 x.1,.int .i64 y.1] W fun e w'=>e=.returned (.int .i64 a)/\w'=W from fun W=>by rw [<-ha]; exact compare_any _ _ W)
 have KB:=hid (show ∀ W,Calls Tryz.prog 131 #[.int .i64 x.2,.int .i64 y.2] W fun e w'=>e=.returned (.int .i64 b)/\w'=W from fun W=>by rw [<-hb]; exact compare_any _ _ W)
 have KO:=hid (or_any a b we.heap.size w3 n3)
 have HH0:=hS
 unfold cmpX
 rw [ha,hb]
 have H3:=hid n3
 have hc3:w3.cell? ⟨W.heap.size,0,none⟩=some (.int .i64 x.1)/\w3.cell? ⟨W.heap.size,1,none⟩=some (.int .i64 x.2)/\w3.cell? ⟨W1.heap.size,0,none⟩=some (.int .i64 y.1)/\w3.cell? ⟨W1.heap.size,1,none⟩=some (.int .i64 y.2):=by
  have hb3:Below we.heap.size we w3:=baQ e3
  exact ⟨cell_bel hb3 (ltQ m1) hS.1,cell_bel hb3 (ltQ m1) hS.2.1,cell_bel hb3 (ltQ m2) hS.2.2.1,cell_bel hb3 (ltQ m2) hS.2.2.2⟩
 have HH3:=hid hc3
 have HE3:=hid e3
 clear hb2 hbe n1 n2 n3 m1 m2 hS ha hb hc3 e3
 generalize orX a b=r at *
 go_enter Tryz.func129,Tryz.ntmps129
 go_wp2_with fail
 refine region_T 12 (fun w'=>w'.cell? ⟨W.heap.size,0,none⟩=some (.int .i64 x.1)/\w'.cell? ⟨W.heap.size,1,none⟩=some (.int .i64 x.2)/\w'.cell? ⟨W1.heap.size,0,none⟩=some (.int .i64 y.1)/\w'.cell? ⟨W1.heap.size,1,none⟩=some (.int .i64 y.2)) (by kernel_rfl) (by rw [ewe]; exact HH0) (fun inv hHeld=>?_)
 rw [ewe]
 clear hHeld ewe
 iterate 8
  refine anyT_auto (v:=?_) rfl (by kernel_rfl) (fun _ _ _ h=>h) (Or.inl ⟨by rfl,?_⟩) HH0 inv (fun inv=>?_)
  rotate_left
  ·intro w hSw
   try dsimp only at hSw
   go_simp
   try with_reducible rfl
  simp only [Act.put,sjA,sj0,sjS]
 refine anyT_next (i:=4) (o:={dst:=some 9,op:=.call {callee:=.value (.func 131),args:=#[.tmp 6,.tmp 8],argTypes:=#[3,3]},type:=3,pos := "states.go:72",after:=#[{on:=1,ground:=.data},{on:=3,ground:=.data}],guard:=none}) (by kernel_rfl) rfl (by decide) inv (fun inv K' hK=>?_)
 go_simp
 refine (KA.out _).mono ?_
 rintro e w' ⟨rfl,rfl⟩
 refine hK.out _ _ HH0 ?_
 clear hK K'
 try simp only [Act.put,sjA,sj0,sjS]
 refine anyT_next (i:=9) (o:={dst:=some 14,op:=.call {callee:=.value (.func 131),args:=#[.tmp 11,.tmp 13],argTypes:=#[3,3]},type:=3,pos := "states.go:72",after:=#[{on:=6,ground:=.data},{on:=8,ground:=.data},{on:=4,ground:=.chain}],guard:=none}) (by kernel_rfl) rfl (by decide) inv (fun inv K' hK=>?_)
 go_simp
 refine (KB.out _).mono ?_
 rintro e w' ⟨rfl,rfl⟩
 refine hK.out _ _ HH0 ?_
 clear hK K'
 try simp only [Act.put,sjA,sj0,sjS]
 refine anyT_next (i:=10) (o:={dst:=some 15,op:=.buildSlice 43 2 #[(0,.tmp 9),(1,.tmp 14)],type:=43,pos := "states.go:72",after:=#[{on:=4,ground:=.data},{on:=9,ground:=.data}],guard:=none}) (by kernel_rfl) rfl (by decide) inv (fun inv K' hK=>?_)
 go_simp
 try rw [HE3.out]
 refine hK.out _ _ HH3.out ?_
 clear hK K'
 try simp only [Act.put,sjA,sj0,sjS]
 refine anyT_next (i:=11) (o:={dst:=some 16,op:=.call {callee:=.value (.func 130),args:=#[.tmp 15],argTypes:=#[43]},type:=3,pos := "states.go:72",after:=#[{on:=10,ground:=.data},{on:=9,ground:=.chain}],guard:=none}) (by kernel_rfl) rfl (by decide) inv (fun inv K' hK=>?_)
 go_simp
 refine KO.out.mono ?_
 rintro e w' ⟨rfl,rfl⟩
 refine hK.out _ _ HH3.out ?_
 clear hK K'
 try simp only [Act.put,sjA,sj0,sjS]
 refine anyT_one (i:=12) (o:={dst:=some 4,op:=.assign (.tmp 16),type:=3,pos := "states.go:72",after:=#[{on:=11,ground:=.data},{on:=11,ground:=.chain},{on:=0,ground:=.phase},{on:=1,ground:=.phase},{on:=2,ground:=.phase},{on:=3,ground:=.phase},{on:=4,ground:=.phase},{on:=5,ground:=.phase},{on:=6,ground:=.phase},{on:=7,ground:=.phase},{on:=8,ground:=.phase},{on:=9,ground:=.phase},{on:=10,ground:=.phase},{on:=11,ground:=.phase}],guard:=none}) (by kernel_rfl) rfl (fun K' hK=>?_)
 go_simp
 refine hK.out _ _ (fun h=>absurd h (by decide)) ?_
 clear hK K'
 try simp only [Act.put,sjA,sj0,sjS]
 refine anyT_done (by kernel_rfl) ?_ _
 go_wp2_with fail
 go_ret
 exact ⟨rfl,HEND.out⟩
end Go.Proofs.YticmnfmijdgmbaaGreatDoor

namespace Go.Proofs.YticmnfmijdgmbaaGreatDoor
open Go Go.RowKit Go.Lib Go.Sort
open X14 (It Less)
def RowH (w:World) (g:Nat) (l:List It):Prop:=∀ i (hi:i < l.length),w.cell? ⟨g,i * 2,none⟩=some (.int .i64 l[i].1)/\w.cell? ⟨g,i * 2 + 1,none⟩=some (.int .i64 l[i].2)/\w.frozen? ⟨g,i * 2,none⟩=false/\w.frozen? ⟨g,i * 2 + 1,none⟩=false
theorem RowH.of_own {w:World} {B c n g:Nat} {e:TypeId} {l:List It} (h:w.ownsRow B e 2 (.slice (some ⟨g,0,none⟩) n c) n (icells l)) (hn:l.length=n):RowH w g l:=fun i hi=>by
 obtain ⟨g',e1,_,h1,h2⟩:=items_own h hi hn
 injection e1 with e1
 injection e1 with e1
 subst e1
 rcases h.2 with ⟨e2,_⟩ | ⟨g',cap,cur,e2,_,hg,_⟩
 ·cases e2
 ·injection e2 with e2
  injection e2 with e2
  injection e2 with e2
  subst e2
  exact ⟨h1,h2,foQ hg _,foQ hg _⟩
theorem RowH.kept {w w':World} {g:Nat} {l:List It} (h:RowH w g l) (hb:w'.heap[g]?=w.heap[g]?):RowH w' g l:=fun i hi=>by
 obtain ⟨h1,h2,h3,h4⟩:=h i hi
 exact ⟨(World.cell?_of_block (a:=⟨g,_,none⟩) hb).trans h1,(World.cell?_of_block (a:=⟨g,_,none⟩) hb).trans h2,(World.frozen?_of_block (a:=⟨g,_,none⟩) hb).trans h3,(World.frozen?_of_block (a:=⟨g,_,none⟩) hb).trans h4⟩
theorem RowH.holds {w:World} {g:Nat} {l:List It} (h:RowH w g l):HoldsK encI 2 w g 0 l.toArray:=fun j hj=>by
 have hj':j < l.toArray.size * 2:=by simpa using hj
 have hl:l.toArray.size=l.length:=List.size_toArray
 have hd:j / 2 < l.length:=by omega
 obtain ⟨h1,h2,h3,h4⟩:=h (j / 2) hd
 have e0:l.toArray[j / 2]! = l[j / 2]:=by
  rw [getElem!_pos l.toArray (j / 2) (by omega)]; simp
 rw [get_flatK _ _ _ _ hj',e0,Nat.zero_add]
 rcases Nat.mod_two_eq_zero_or_one j with hm | hm
 ·have e1:(⟨g,j / 2 * 2,none⟩:Addr)=⟨g,j,none⟩:=by simp only [Addr.mk.injEq,true_and,and_true]; omega
  rw [e1] at h1 h3
  rw [hm]
  exact ⟨h1,h3⟩
 ·have e1:(⟨g,j / 2 * 2 + 1,none⟩:Addr)=⟨g,j,none⟩:=by simp only [Addr.mk.injEq,true_and,and_true]; omega
  rw [e1] at h2 h4
  rw [hm]
  exact ⟨h2,h4⟩
theorem RowH.of_holds {w:World} {g:Nat} {l:List It} (h:HoldsK encI 2 w g 0 l.toArray):RowH w g l:=fun i hi=>by
 have hl:l.toArray.size=l.length:=List.size_toArray
 have e0:l.toArray[i]! = l[i]:=by
  rw [getElem!_pos l.toArray i (by omega)]; simp
 have h0:=h (i * 2) (by rw [size_flatK]; omega)
 have h1:=h (i * 2 + 1) (by rw [size_flatK]; omega)
 rw [get_flatK _ _ _ _ (by omega),Nat.zero_add,show i * 2 / 2=i by omega,show i * 2 % 2=0 by omega,e0] at h0
 rw [get_flatK _ _ _ _ (by omega),Nat.zero_add,show (i * 2 + 1) / 2=i by omega,show (i * 2 + 1) % 2=1 by omega,e0] at h1
 exact ⟨h0.1,h1.1,h0.2,h1.2⟩
theorem putRowK_block (w:World) (n g:Nat) (d:Array It) (os:Array Obj) (k:Nat) (hk:k < w.heap.size) (hne:k ≠ g):(sortWorldK encI 2 w g 0 n d os).heap[k]?=w.heap[k]?:=by
 unfold sortWorldK grow
 have hs:(putRowK encI 2 (Sort.ahead w n) g 0 d).heap.size=w.heap.size:=by simp [putRowK,putRow,mapBlock,Sort.ahead]
 show ((putRowK encI 2 (Sort.ahead w n) g 0 d).heap ++ os)[k]?=_
 rw [Array.getElem?_append_left (by rw [hs]; exact hk)]
 unfold putRowK putRow mapBlock Sort.ahead
 show (w.heap.modify g _)[k]?=_
 rw [Array.getElem?_modify,if_neg (fun e=>hne e.symm)]
def SortP (g:Nat) (l:List It) (w:World) (e:Ending) (w':World):Prop:=e=.returned (.tuple #[])/\∃ l',(∀ x,x ∈ l' ↔ x ∈ l)/\l'.length=l.length/\X14.Ord l'/\RowH w' g l'/\KeptX w.heap.size g w w'
theorem sort_any {w:World} {g c:Nat} {l:List It} (hR:RowH w g l) (hg:g < w.heap.size) (hl:l.length < 4611686018427387904) :
  Calls Tryz.prog 128 #[.slice (some ⟨g,0,none⟩) l.length c,.func (.func 129) #[] #[]] w (SortP g l w):=by
 have eg:∀ args w,(callFunc 129 args).run Tryz.prog w=.ok (.enter 129 args) w:=enters_of Tryz.func129 (by kernel_rfl) rfl
 have hs:l.toArray.size=l.length:=List.size_toArray
 have hcon:=AnyQ.slices_SortFunc_total Tryz.sortIt 2 Tryz.isAgg60 Tryz.sizeOf60 encI (fun _=>rfl) (fun x v hv=>by simp [encI] at hv; rcases hv with rfl | rfl <;> rfl) cmpX cmp_swo 129 #[] g 0 c l.toArray w eg (fun _ _ _ _ x y=>compareItems_any x y _) hR.holds hg (by omega) cmp_total
 change Calls Tryz.prog 128 _ _ _ at hcon
 rw [hs] at hcon
 refine hcon.mono ?_
 rintro e w' ⟨rfl,n,os,rfl⟩
 refine ⟨rfl,l.mergeSort fun x y=>!ltOf cmpX y x,fun x=>List.mem_mergeSort,List.length_mergeSort l,?_,?_,?_⟩
 ·unfold X14.Ord
  have:=List.pairwise_mergeSort (le:=fun x y=>!ltOf cmpX y x) (fun a b c h1 h2=>by
   simp only [Bool.not_eq_true',cmp_not] at *
   unfold Less at *
   omega) (fun a b=>by
   simp only [Bool.or_eq_true,Bool.not_eq_true',cmp_not]
   unfold Less
   omega) l
  exact this.imp fun {a b} h=>by simpa [cmp_not] using h
 ·refine RowH.of_holds ?_
  refine holdsK_grow encI 2 _ os g 0 _ (by simp [putRowK,putRow,mapBlock,Sort.ahead]; exact hg) ?_
  exact holdsK_putRowK encI 2 _ g 0 l.toArray _ (holdsK_ahead encI 2 w n g 0 _ hR.holds) (by simp [List.length_mergeSort])
 ·refine ⟨rfl,rfl,rfl,?_,fun k hk hne=>putRowK_block w n g _ os k hk hne⟩
  unfold sortWorldK grow
  show w.heap.size<=((putRowK encI 2 (Sort.ahead w n) g 0 _).heap ++ os).size
  rw [Array.size_append]
  have:(putRowK encI 2 (Sort.ahead w n) g 0 (l.mergeSort fun x y=>!ltOf cmpX y x).toArray).heap.size=w.heap.size:=by simp [putRowK,putRow,mapBlock,Sort.ahead]
  simp only [List.toList_toArray] at *
  omega
end Go.Proofs.YticmnfmijdgmbaaGreatDoor
