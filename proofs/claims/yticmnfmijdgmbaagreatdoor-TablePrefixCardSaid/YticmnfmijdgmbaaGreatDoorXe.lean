/- Plain mathematics: what follows. -/
import Derived.Test.YticmnfmijdgmbaaGreatDoorXd
import Derived.Test.YticmnfmijdgmbaaGreatDoorGa
set_option linter.unusedVariables false
set_option linter.unusedSimpArgs false
namespace Go.Proofs.YticmnfmijdgmbaaGreatDoor.S13
theorem inN_iff {a b:Nat} (ha:a < top):inN a b=true ↔ Sub a b:=by
 unfold inN
 rw [decide_eq_true_eq,lessN_zero_iff ha,sub_iff]
 constructor
 ·intro h i hi
  by_cases h64:i < 64
  ·exact h i h64 hi
  ·rw [testBit_hi ha (by omega)] at hi; cases hi
 ·exact fun h i _ hi=>h i hi
end Go.Proofs.YticmnfmijdgmbaaGreatDoor.S13

namespace Go.Proofs.YticmnfmijdgmbaaGreatDoor
open Go Go.RowKit Go.Lib
open X14 (It)
open Go.Maps (Keyed)
open S13 (u64 comX Com bitN inN top)
open S13.X15 (Pl)
theorem zero69 (w:World):(zeroValue 69).run Tryz.prog w=.ok (u64 0) w:=by kernel_rfl
theorem info158:(Tryz.prog.info? 158).map (fun i=>(i.zero,i.size,i.bytes))=some (some (.agg #[.int .i64 0,.int .i64 0,.int .i64 0]),3,24):=by kernel_rfl
def PlOk (p:Pl):Prop:=(p.1:Int)<=9223372036854775807/\-9223372036854775808<=p.2.1/\p.2.1<=9223372036854775807/\-9223372036854775808<=p.2.2/\p.2.2<=9223372036854775807
theorem plKey {p:Pl} (h:PlOk p):∃ l,keyOf Tryz.prog 158 (plV p)=some l:=key158 _ _ _ (wf_i64 (by omega) h.1) (wf_i64 h.2.1 h.2.2.1) (wf_i64 h.2.2.2.1 h.2.2.2.2)
theorem amap_mem {L:List (Pl × Nat)} {p:Pl} {v:Nat} (h:(p,v) ∈ L):(plV p,u64 v) ∈ amap L:=List.mem_map.2 ⟨(p,v),h,rfl⟩
theorem amap_none {L:List (Pl × Nat)} {p:Pl} (h:p ∉ L.map (·.1)):∀ e ∈ amap L,e.1 ≠ plV p:=by
 intro e he e2
 obtain ⟨q,hq,rfl⟩:=List.mem_map.1 he
 exact h (List.mem_map.2 ⟨q,hq,plV_inj e2⟩)
theorem amap_look {w:World} {bA:Nat} {LA:List (Pl × Nat)} (h:MapIs Tryz.prog 158 w bA (amap LA)) {p:Pl} (hp:PlOk p):(Instr.lookup 152 (.map (some bA)) (plV p) false).run Tryz.prog w=.ok (u64 (getA LA p)) w:=by
 obtain ⟨l,hl⟩:=plKey hp
 by_cases hin:p ∈ LA.map (·.1)
 ·obtain ⟨e,he,rfl⟩:=List.mem_map.1 hin
  rw [getA_some (amap_nodup h.apart) (p:=e.1) (v:=e.2) he]
  exact h.look_some1 keyed158 Tryz.underlying152 hl (amap_mem he)
 ·rw [getA_none hin]
  exact h.look_none1 keyed158 Tryz.underlying152 hl (zero69 w) (amap_none hin)
theorem amap_put {w:World} {bA:Nat} {LA:List (Pl × Nat)} (h:MapIs Tryz.prog 158 w bA (amap LA)) {p:Pl} (hp:PlOk p) (u:Nat) :
  ∃ w' LA',(Instr.mapUpdate 152 (.map (some bA)) (plV p) (u64 u)).run Tryz.prog w=.ok () w'/\MapIs Tryz.prog 158 w' bA (amap LA')/\w.grownBy w' (some bA)/\∀ q,getA LA' q=if q=p then u else getA LA q:=by
 obtain ⟨l,hl⟩:=plKey hp
 have hn:=amap_nodup h.apart
 by_cases hin:p ∈ LA.map (·.1)
 ·obtain ⟨e,he,rfl⟩:=List.mem_map.1 hin
  obtain ⟨j,hj⟩:=List.mem_iff_getElem?.1 he
  have hjl:=(List.getElem?_eq_some_iff.1 hj).1
  obtain ⟨w',h1,h2,h3⟩:=h.change (v:=u64 u) keyed158 Tryz.underlying152 hl (j:=j) (u:=u64 e.2) (by unfold amap; rw [List.getElem?_map,hj]; rfl)
  have e1:(amap LA).set j (plV e.1,u64 u)=amap (LA.set j (e.1,u)):=by unfold amap; rw [List.map_set]
  rw [e1] at h2
  refine ⟨w',LA.set j (e.1,u),h1,h2,h3,fun q=>?_⟩
  have hn2:=amap_nodup h2.apart
  by_cases hq:q=e.1
  ·rw [if_pos hq,hq]
   exact getA_some hn2 (List.mem_iff_getElem?.2 ⟨j,by rw [List.getElem?_set_self hjl]⟩)
  ·rw [if_neg hq]
   by_cases hqin:q ∈ LA.map (·.1)
   ·obtain ⟨f,hf,rfl⟩:=List.mem_map.1 hqin
    rw [getA_some hn (p:=f.1) (v:=f.2) hf]
    obtain ⟨k,hk⟩:=List.mem_iff_getElem?.1 hf
    refine getA_some hn2 (List.mem_iff_getElem?.2 ⟨k,?_⟩)
    rw [List.getElem?_set_ne (fun e2=>hq (by subst e2; exact congrArg Prod.fst (Option.some.inj (hk.symm.trans hj))))]
    exact hk
   ·rw [getA_none hqin]
    refine getA_none fun hm=>?_
    obtain ⟨f,hf,rfl⟩:=List.mem_map.1 hm
    rcases List.mem_or_eq_of_mem_set hf with h4 | h4
    ·exact hqin (List.mem_map.2 ⟨f,h4,rfl⟩)
    ·exact hq ((congrArg Prod.fst h4).trans rfl)
 ·obtain ⟨w',h1,h2,h3⟩:=h.put (v:=u64 u) keyed158 Tryz.underlying152 hl (amap_none hin)
  have e1:amap LA ++ [(plV p,u64 u)]=amap (LA ++ [(p,u)]):=by unfold amap; rw [List.map_append]; rfl
  rw [e1] at h2
  refine ⟨w',LA ++ [(p,u)],h1,h2,h3,fun q=>?_⟩
  have hn2:=amap_nodup h2.apart
  by_cases hq:q=p
  ·rw [if_pos hq,hq]
   exact getA_some hn2 (List.mem_append_right _ (List.mem_singleton.2 rfl))
  ·rw [if_neg hq]
   by_cases hqin:q ∈ LA.map (·.1)
   ·obtain ⟨f,hf,rfl⟩:=List.mem_map.1 hqin
    rw [getA_some hn (p:=f.1) (v:=f.2) hf]
    exact getA_some hn2 (List.mem_append_left _ hf)
   ·rw [getA_none hqin]
    refine getA_none fun hm=>?_
    rw [List.map_append] at hm
    rcases List.mem_append.1 hm with h4 | h4
    ·exact hqin h4
    ·exact hq (by simpa using h4)
section
variable {B bS bA bC:Nat} {W w w':World} {G:GD} {gc:List Value} {LA LA':List (Pl × Nat)} {LC:List It} {qv qv':Value} {Q Q':List Pl} {rest:List Item}
theorem sp_box (h:Foot B W w (spItems B bS bA bC G gc LA LC qv Q rest)):w.heap[bS]?=some (.cells (gc ++ [.map (some bA),.map (some bC),qv]).toArray 156 (0,0)):=h.ok 0 _ rfl
theorem sp_mapA (h:Foot B W w (spItems B bS bA bC G gc LA LC qv Q rest)):MapIs Tryz.prog 158 w bA (amap LA):=h.ok 1 _ rfl
theorem sp_mapC (h:Foot B W w (spItems B bS bA bC G gc LA LC qv Q rest)):MapIs Tryz.prog 60 w bC (cmap G LC):=h.ok 2 _ rfl
theorem sp_que (h:Foot B W w (spItems B bS bA bC G gc LA LC qv Q rest)):ownsT w B 3 qv Q.length (qcells Q):=h.ok 3 _ rfl
theorem sp_c7 (h:Foot B W w (spItems B bS bA bC G gc LA LC qv Q rest)) (hg:gc.length=7):w.cell? ⟨bS,7,none⟩=some (.map (some bA)):=by rw [coQ (sp_box h)]; simp [hg]
theorem sp_c8 (h:Foot B W w (spItems B bS bA bC G gc LA LC qv Q rest)) (hg:gc.length=7):w.cell? ⟨bS,8,none⟩=some (.map (some bC)):=by rw [coQ (sp_box h)]; simp [hg]
theorem sp_c9 (h:Foot B W w (spItems B bS bA bC G gc LA LC qv Q rest)) (hg:gc.length=7):w.cell? ⟨bS,9,none⟩=some qv:=by rw [coQ (sp_box h)]; simp [hg]
theorem sp_cg (h:Foot B W w (spItems B bS bA bC G gc LA LC qv Q rest)) {k:Nat} {v:Value} (hk:gc[k]?=some v):w.cell? ⟨bS,k,none⟩=some v:=by
 have hl:=(List.getElem?_eq_some_iff.1 hk).1
 rw [coQ (sp_box h),<-Array.getElem?_toList]
 show (gc ++ _)[k]?=_
 rw [List.getElem?_append_left hl]
 exact hk
theorem sp_put (h:Foot B W w (spItems B bS bA bC G gc LA LC qv Q rest)) (hm:MapIs Tryz.prog 158 w' bA (amap LA')) (hg:w.grownBy w' (some bA)):Foot B W w' (spItems B bS bA bC G gc LA' LC qv Q rest):=
 h.upd 1 rfl (mapI 158 bA (amap LA')) (Touch.grown hg) hm fun b hb=>by
  have hb':b=bA:=by
   have:b ∈ [bA]:=hb
   simpa using this
  subst hb'
  exact ⟨.inl hb,hm.lt⟩
theorem sp_push1 (h:Foot B W w (spItems B bS bA bC G gc LA LC qv Q rest)) {p:Pl} (hown:ownsT w' B 3 qv' (Q.length + 1) (qcells Q ++ plC p)) (hg:w.grownBy w' qv.ownBlock) (hat:qv'.ownBlock=qv.ownBlock\/qv'.ownBlock=some w.heap.size) :
  Foot B W w' (blkI bS (.cells (gc ++ [.map (some bA),.map (some bC),qv]).toArray 156 (0,0)) :: mapI 158 bA (amap LA) :: mapI 60 bC (cmap G LC) :: queI B 3 qv' (Q.length + 1) (qcells Q ++ plC p) :: rest):=
 h.push_que 3 (sz:=3) (m:=Q.length + 1) (ys:=qcells Q ++ plC p) rfl hown hg hat
theorem sp_store {n:Nat} {xs:List Value} (h:Foot B W w (blkI bS (.cells (gc ++ [.map (some bA),.map (some bC),qv]).toArray 156 (0,0)) :: mapI 158 bA (amap LA) :: mapI 60 bC (cmap G LC) :: queI B 3 qv' n xs :: rest)) (hgl:gc.length=7) (hn:Q.length=n) (hx:qcells Q=xs) :
  Foot B W (w.setCell ⟨bS,9,none⟩ qv') (spItems B bS bA bC G gc LA LC qv' Q rest):=by
 have h2:=foot_cell (k:=9) (v:=qv') h 0 rfl
 have e1:((gc ++ [Value.map (some bA),.map (some bC),qv]).toArray.setIfInBounds 9 qv')=(gc ++ [.map (some bA),.map (some bC),qv']).toArray:=by
  rw [List.setIfInBounds_toArray]
  congr 1
  rw [List.set_append_right _ _ (by omega),hgl]
  rfl
 rw [e1] at h2
 unfold spItems
 rw [hn,hx]
 exact h2
theorem sp_last {l:List Item} {y:Item} (h:Foot B W w (l ++ [y])):y.ok w:=h.ok l.length y (by simp)
theorem sp_drop {l:List Item} {y:Item} (h:Foot B W w (l ++ [y])):Foot B W w l:=
 h.pick l id (fun i x hx=>by rw [id,List.getElem?_append_left (List.getElem?_eq_some_iff.1 hx).1]; exact hx) (fun i j _ _ e=>e)
theorem wp_push_T {P:Program} {o:Oper} {a:Act} {K:Act->World->Prop} {Qx:Exit->Act->World->Prop} (s x:Operand) (t e:TypeId) (ho:o.op=.call {callee:=.builtin .append,args:=#[s,x],argTypes:=#[t,t]})
  (z:Value) (sz bytes:Nat) (ht:P.underlying t=some (.slice e)) (hinfo:(P.info? e).map (fun i=>(i.zero,i.size,i.bytes))=some (some z,sz,bytes)) (hz1:z.cells.size=sz) (hby:bytes<=24)
  (v:Value) (n:Nat) (xs:List Value) (hs:a.eval s=v) (hown:ownsT w B sz v n xs) (g:Nat) (hx:a.eval x=.slice (some ⟨g,0,none⟩) 1 1) (qs:List Value) (hql:qs.length=sz) (hb:∀ j u,qs[j]?=some u->w.cell? ⟨g,j,none⟩=some u) (hq:∀ q ∈ qs,q.oneCell'=true) (hn:n<=1000000000000) (hB:B<=w.heap.size)
  (h:∀ ao c w',ownsT w' B sz (.slice ao (n + 1) c) (n + 1) (xs ++ qs)->w.grownBy w' v.ownBlock->((Value.slice ao (n + 1) c).ownBlock=v.ownBlock\/(Value.slice ao (n + 1) c).ownBlock=some w.heap.size)->K (a.put o.dst (.slice ao (n + 1) c)) w'):o.wp P a w K Qx:=by
 obtain ⟨v',w',hr,h2,h3,h4,ao,c,rfl⟩:=run_push_T (w:=w) t o.type e z sz bytes ht hinfo hz1 hby B v n xs hown g qs hql hb hq hn hB
 unfold Oper.wp execOp
 simp only [ho,resolve,invoke,builtin,Sem.run_bind,Sem.run_pure,Result.andThen_ok,List.map_toArray,List.map_cons,List.map_nil,hs,hx,hr]
 exact h ao c w' h2 h3 h4
end
def AddP (B bS bA bC:Nat) (W:World) (G:GD) (gc:List Value) (LA:List (Pl × Nat)) (LC:List It) (Q:List Pl) (rest:List Item) (p:Pl) (v:Nat) (e:Ending) (w':World):Prop:=
 e=.returned (.tuple #[])/\∃ LA' qv' Q',Foot B W w' (spItems B bS bA bC G gc LA' LC qv' Q' rest)/\((S13.Sub v (getA LA p)/\LA'=LA/\Q'=Q)\/(¬ S13.Sub v (getA LA p)/\Q'=Q ++ [p]/\∀ q,getA LA' q=if q=p then getA LA p ||| v else getA LA q))
set_option maxRecDepth 100000 in
set_option maxHeartbeats 8000000 in
theorem add_any {B bS bA bC:Nat} {W w:World} {G:GD} {gc:List Value} {LA:List (Pl × Nat)} {LC:List It} {qv:Value} {Q:List Pl} {rest:List Item} (h:Foot B W w (spItems B bS bA bC G gc LA LC qv Q rest)) (hgl:gc.length=7) (p:Pl) (hp:PlOk p) (v:Nat) (hv:v < top) (hlow:getA LA p < top) (hQ:Q.length<=1000000000000) :
  Calls Tryz.prog 87 #[.pointer (some ⟨bS,0,none⟩),plV p,u64 v] w (AddP B bS bA bC W G gc LA LC Q rest p v):=by
 obtain ⟨W1,e1⟩:=nmQ (w.alloc (.cells #[.int .i64 (p.1:Int),.int .i64 p.2.1,.int .i64 p.2.2] 158))
 have hb1:Below w.heap.size w W1:=baQ e1
 have n1:W1.heap[w.heap.size]?=some (.cells #[.int .i64 (p.1:Int),.int .i64 p.2.1,.int .i64 p.2.2] 158 (0,0)):=nbQ e1
 have HF:=hid (show Foot B W W1 (spItems B bS bA bC G gc LA LC qv Q (rest ++ [blkI w.heap.size (.cells #[.int .i64 (p.1:Int),.int .i64 p.2.1,.int .i64 p.2.2] 158 (0,0))])) from h.add (blkI w.heap.size (.cells #[.int .i64 (p.1:Int),.int .i64 p.2.1,.int .i64 p.2.2] 158 (0,0))) hb1 n1 (fun b hb=>by
  have:b ∈ [w.heap.size]:=hb
  obtain rfl:b=w.heap.size:=by simpa using this
  exact ⟨Nat.le_refl _,(ltQ n1)⟩))
 have HP:=hid hp
 have HV:=hid hv
 have HLO:=hid hlow
 obtain ⟨R,hR⟩:=nmQ (rest ++ [blkI w.heap.size (.cells #[.int .i64 (p.1:Int),.int .i64 p.2.1,.int .i64 p.2.2] 158 (0,0))])
 rw [hR] at HF
 have HRR:=hid hR
 have HBX:=hid (show ∀ w' LA' qv' (Q':List Pl),Foot B W w' (spItems B bS bA bC G gc LA' LC qv' Q' R)->w'.heap[w.heap.size]?=some (.cells #[.int .i64 (p.1:Int),.int .i64 p.2.1,.int .i64 p.2.2] 158 (0,0))/\Foot B W w' (spItems B bS bA bC G gc LA' LC qv' Q' rest) from fun w' LA' qv' Q' hf=>by
  rw [<-hR] at hf
  exact ⟨sp_last (l:=spItems B bS bA bC G gc LA' LC qv' Q' rest) hf,sp_drop hf⟩)
 have hBw:B<=w.heap.size:=Nat.le_trans h.le h.bel.size
 obtain ⟨old,hold⟩:=nmQ (getA LA p)
 have HOLD:=hid hold
 obtain ⟨we,ewe⟩:=nmQ (W1.drew)
 have hbe:Below W1.heap.size W1 we:=bdQ ewe
 have HFe:=hid (HF.out.below hbe)
 have HNe:=hid (HBX.out we LA qv Q HFe.out).1
 have HS:=hid (show ∀ w',w'=we->(w'.cell? ⟨bS,7,none⟩=some (.map (some bA))/\w'.cell? ⟨w.heap.size,0,none⟩=some (.int .i64 (p.1:Int))/\w'.cell? ⟨w.heap.size,1,none⟩=some (.int .i64 p.2.1)/\w'.cell? ⟨w.heap.size,2,none⟩=some (.int .i64 p.2.2)) from fun w' e=>by
  subst e
  exact ⟨sp_c7 HFe.out hgl,coQ HNe.out 0,coQ HNe.out 1,coQ HNe.out 2⟩)
 have HH0:=HS.out we rfl
 have hrun:=amap_look (sp_mapA HFe.out) hp
 rw [hold] at hrun
 have HRUN:=hid hrun
 unfold plV at hrun
 have HRUN2:=hid hrun
 unfold plV
 clear h hb1 n1 hp hv hlow hold hbe hrun hR
 go_enter Tryz.func87,Tryz.ntmps87
 go_wp2_with fail
 refine region_T 6 (fun w'=>w'.cell? ⟨bS,7,none⟩=some (.map (some bA))/\w'.cell? ⟨w.heap.size,0,none⟩=some (.int .i64 (p.1:Int))/\w'.cell? ⟨w.heap.size,1,none⟩=some (.int .i64 p.2.1)/\w'.cell? ⟨w.heap.size,2,none⟩=some (.int .i64 p.2.2)) (by kernel_rfl) (by rw [ewe]; exact HH0) (fun inv hHeld=>?_)
 rw [ewe]
 clear hHeld
 iterate 5
  refine anyT_auto (v:=?_) rfl (by kernel_rfl) (fun _ _ _ h=>h) (Or.inl ⟨by rfl,?_⟩) HH0 inv (fun inv=>?_)
  rotate_left
  ·intro w hSw
   try dsimp only at hSw
   go_simp
   try with_reducible rfl
  simp only [Act.put,sjA,sj0,sjS]
 refine anyT_next (i:=5) (o:={dst:=some 12,op:=.lookup 152 (.tmp 10) (.tmp 11) false,type:=69,pos := "look.go:90",after:=#[{on:=3,ground:=.data},{on:=4,ground:=.data}],guard:=none}) (by kernel_rfl) rfl (by decide) inv (fun inv K' hK=>?_)
 simp only [Region.wanted]
 rw [if_pos trivial]
 refine wp_look2 (.tmp 10) (.tmp 11) 152 false rfl rfl (.agg #[.int .i64 (p.1:Int),.int .i64 p.2.1,.int .i64 p.2.2]) (u64 old) rfl HRUN2.out ?_
 refine hK.out _ _ HH0 ?_
 clear hK K'
 try simp only [Act.put,sjA,sj0,sjS]
 refine anyT_one (i:=6) (o:={dst:=some 6,op:=.assign (.tmp 12),type:=69,pos := "look.go:90",after:=#[{on:=5,ground:=.data},{on:=0,ground:=.phase},{on:=1,ground:=.phase},{on:=2,ground:=.phase},{on:=3,ground:=.phase},{on:=4,ground:=.phase},{on:=5,ground:=.phase}],guard:=none}) (by kernel_rfl) rfl (fun K' hK=>?_)
 go_simp
 refine hK.out _ _ (fun h=>absurd h (by decide)) ?_
 clear hK K'
 try simp only [Act.put,sjA,sj0,sjS]
 refine anyT_done (by kernel_rfl) ?_ _
 clear HS
 go_wp2_with fail
 refine (S13.In_any v old HV.out (by rw [<-HOLD.out]; exact HLO.out) we).mono ?_
 rintro e w2 ⟨rfl,rfl⟩
 by_cases hsub:S13.Sub v old
 ·have hin:inN v old=true:=(S13.inN_iff HV.out).2 hsub
  rw [hin]
  go_wp2_with fail
  refine bodyPost_ret (results_none rfl _ _ _) rfl ?_
  exact ⟨rfl,LA,qv,Q,(HBX.out we LA qv Q HFe.out).2,.inl ⟨by rw [HOLD.out]; exact hsub,rfl,rfl⟩⟩
 have hin:inN v old=false:=by
  cases hb:inN v old
  ·rfl
  ·exact absurd ((S13.inN_iff HV.out).1 hb) hsub
 rw [hin]
 have HSUB:=hid hsub
 clear hin hsub HH0
 obtain ⟨wf,ewf⟩:=nmQ (we.drew)
 have hbf:Below we.heap.size we wf:=bdQ ewf
 have HFf:=hid (HFe.out.below hbf)
 have HNf:=hid (HBX.out wf LA qv Q HFf.out).1
 have HH0:wf.cell? ⟨bS,7,none⟩=some (.map (some bA))/\wf.cell? ⟨w.heap.size,0,none⟩=some (.int .i64 (p.1:Int))/\wf.cell? ⟨w.heap.size,1,none⟩=some (.int .i64 p.2.1)/\wf.cell? ⟨w.heap.size,2,none⟩=some (.int .i64 p.2.2):=⟨sp_c7 HFf.out hgl,coQ HNf.out 0,coQ HNf.out 1,coQ HNf.out 2⟩
 obtain ⟨wm,LA',hrm,hmm,hgm,hget⟩:=amap_put (sp_mapA HFf.out) HP.out (old ||| v)
 unfold plV at hrm
 have HRM:=hid hrm
 have HGET:=hid hget
 have HFm:=hid (sp_put HFf.out hmm hgm)
 clear hbf hrm hmm hgm hget
 go_wp2_with fail
 refine region_T 8 (fun w'=>w'.cell? ⟨bS,7,none⟩=some (.map (some bA))/\w'.cell? ⟨w.heap.size,0,none⟩=some (.int .i64 (p.1:Int))/\w'.cell? ⟨w.heap.size,1,none⟩=some (.int .i64 p.2.1)/\w'.cell? ⟨w.heap.size,2,none⟩=some (.int .i64 p.2.2)) (by kernel_rfl) (by rw [ewf]; exact HH0) (fun inv hHeld=>?_)
 rw [ewf]
 clear hHeld ewf
 iterate 7
  refine anyT_auto (v:=?_) rfl (by kernel_rfl) (fun _ _ _ h=>h) (Or.inl ⟨by rfl,?_⟩) HH0 inv (fun inv=>?_)
  rotate_left
  ·intro w hSw
   try dsimp only at hSw
   go_simp
   try with_reducible rfl
  simp only [Act.put,sjA,sj0,sjS]
 refine anyT_next (i:=7) (o:={dst:=some 24,op:=.call {callee:=.value (.func 70),args:=#[.tmp 22,.tmp 23],argTypes:=#[69,69]},type:=69,pos := "look.go:91",after:=#[{on:=5,ground:=.data},{on:=6,ground:=.data}],guard:=none}) (by kernel_rfl) rfl (by decide) inv (fun inv K' hK=>?_)
 go_simp
 refine (S13.Union_any old v (by rw [<-HOLD.out]; exact HLO.out) HV.out wf).mono ?_
 rintro e w2 ⟨rfl,rfl⟩
 refine hK.out _ _ HH0 ?_
 clear hK K'
 try simp only [Act.put,sjA,sj0,sjS]
 refine anyT_one (i:=8) (o:={dst:=none,op:=.mapUpdate 152 (.tmp 20) (.tmp 21) (.tmp 24),type:=0,pos := "look.go:91",after:=#[{on:=3,ground:=.data},{on:=4,ground:=.data},{on:=7,ground:=.data},{on:=7,ground:=.chain},{on:=0,ground:=.phase},{on:=1,ground:=.phase},{on:=2,ground:=.phase},{on:=3,ground:=.phase},{on:=4,ground:=.phase},{on:=5,ground:=.phase},{on:=6,ground:=.phase},{on:=7,ground:=.phase}],guard:=none}) (by kernel_rfl) rfl (fun K' hK=>?_)
 simp only [Region.wanted]
 rw [if_pos trivial]
 refine wp_mput (.tmp 20) (.tmp 21) (.tmp 24) 152 rfl rfl (.agg #[.int .i64 (p.1:Int),.int .i64 p.2.1,.int .i64 p.2.2]) (u64 (old ||| v)) rfl rfl HRM.out ?_
 refine hK.out _ _ (fun h=>absurd h (by decide)) ?_
 clear hK K'
 try simp only [Act.put,sjA,sj0,sjS]
 refine anyT_done (by kernel_rfl) ?_ _
 clear HH0
 obtain ⟨wg,ewg⟩:=nmQ (wm.drew)
 have hbg:Below wm.heap.size wm wg:=bdQ ewg
 have HFg:=hid (HFm.out.below hbg)
 have HNg:=hid (HBX.out wg LA' qv Q HFg.out).1
 have HH0:wg.cell? ⟨bS,9,none⟩=some qv/\wg.cell? ⟨w.heap.size,0,none⟩=some (.int .i64 (p.1:Int))/\wg.cell? ⟨w.heap.size,1,none⟩=some (.int .i64 p.2.1)/\wg.cell? ⟨w.heap.size,2,none⟩=some (.int .i64 p.2.2):=⟨sp_c9 HFg.out hgl,coQ HNg.out 0,coQ HNg.out 1,coQ HNg.out 2⟩
 obtain ⟨wq,eq⟩:=nmQ (wg.alloc (.cells #[.int .i64 (p.1:Int),.int .i64 p.2.1,.int .i64 p.2.2] 158))
 have hbq:Below wg.heap.size wg wq:=baQ eq
 have nq:wq.heap[wg.heap.size]?=some (.cells #[.int .i64 (p.1:Int),.int .i64 p.2.1,.int .i64 p.2.2] 158 (0,0)):=nbQ eq
 have HFq:=hid (HFg.out.below hbq)
 have HNq:=hid (HBX.out wq LA' qv Q HFq.out).1
 have HH1:wq.cell? ⟨bS,9,none⟩=some qv/\wq.cell? ⟨w.heap.size,0,none⟩=some (.int .i64 (p.1:Int))/\wq.cell? ⟨w.heap.size,1,none⟩=some (.int .i64 p.2.1)/\wq.cell? ⟨w.heap.size,2,none⟩=some (.int .i64 p.2.2):=⟨sp_c9 HFq.out hgl,coQ HNq.out 0,coQ HNq.out 1,coQ HNq.out 2⟩
 have HCQ:=hid (show ∀ j u,(plC p)[j]?=some u->wq.cell? ⟨wg.heap.size,j,none⟩=some u from fun j u hj=>by
  rw [coQ nq,<-hj,<-List.getElem?_toArray]
  rfl)
 have HBq:=hid (show B<=wq.heap.size from Nat.le_trans HFq.out.le HFq.out.bel.size)
 obtain ⟨qo,qc,rfl⟩:=(sp_que HFq.out).shape
 have hql:Q.length=Q.length:=rfl
 clear hbg hbq nq
 go_wp2_with fail
 refine region_T 10 (fun w'=>w'.cell? ⟨bS,9,none⟩=some (.slice qo Q.length qc)/\w'.cell? ⟨w.heap.size,0,none⟩=some (.int .i64 (p.1:Int))/\w'.cell? ⟨w.heap.size,1,none⟩=some (.int .i64 p.2.1)/\w'.cell? ⟨w.heap.size,2,none⟩=some (.int .i64 p.2.2)) (by kernel_rfl) (by rw [ewg]; exact HH0) (fun inv hHeld=>?_)
 rw [ewg]
 clear hHeld ewg
 iterate 6
  refine anyT_auto (v:=?_) rfl (by kernel_rfl) (fun _ _ _ h=>h) (Or.inl ⟨by rfl,?_⟩) HH0 inv (fun inv=>?_)
  rotate_left
  ·intro w hSw
   try dsimp only at hSw
   go_simp
   try with_reducible rfl
  simp only [Act.put,sjA,sj0,sjS]
 refine anyT_next (i:=6) (o:={dst:=some 31,op:=.buildSlice 154 1 #[(0,.tmp 30)],type:=154,pos := "look.go:92",after:=#[{on:=5,ground:=.data}],guard:=none}) (by kernel_rfl) rfl (by decide) inv (fun inv K' hK=>?_)
 go_simp
 refine hK.out _ _ HH1 ?_
 clear hK K' HH0
 try simp only [Act.put,sjA,sj0,sjS]
 refine anyT_next (i:=7) (o:={dst:=some 32,op:=.call {callee:=.builtin .append,args:=#[.tmp 29,.tmp 31],argTypes:=#[154,154]},type:=154,pos := "look.go:92",after:=#[{on:=4,ground:=.data},{on:=6,ground:=.data}],guard:=none}) (by kernel_rfl) rfl (by decide) inv (fun inv K' hK=>?_)
 simp only [Region.wanted]
 rw [if_pos trivial]
 refine wp_push_T (.tmp 29) (.tmp 31) 154 158 rfl (.agg #[.int .i64 0,.int .i64 0,.int .i64 0]) 3 24 Tryz.underlying154 info158 rfl (by decide) (.slice qo Q.length qc) Q.length (qcells Q) rfl (sp_que HFq.out) wg.heap.size rfl (plC p) rfl HCQ.out (fun q hq=>by
  unfold plC at hq
  simp only [List.mem_cons,List.not_mem_nil,or_false] at hq
  rcases hq with rfl | rfl | rfl <;> rfl) hQ HBq.out ?_
 intro ao c w8 hown hg hat
 have HF8:=hid (sp_push1 HFq.out hown hg hat)
 have hbx8:w8.heap[w.heap.size]?=some (.cells #[.int .i64 (p.1:Int),.int .i64 p.2.1,.int .i64 p.2.2] 158 (0,0)):=by
  have hf:=HF8.out
  rw [<-HRR.out] at hf
  exact sp_last (l:=blkI bS _ :: mapI 158 bA (amap LA') :: mapI 60 bC (cmap G LC) :: queI B 3 _ (Q.length + 1) (qcells Q ++ plC p) :: rest) hf
 have hbS8:w8.heap[bS]?=some (.cells (gc ++ [Value.map (some bA),Value.map (some bC),Value.slice qo Q.length qc]).toArray 156 (0,0)):=HF8.out.ok 0 _ rfl
 have c9:w8.cell? ⟨bS,9,none⟩=some (.slice qo Q.length qc):=by rw [coQ hbS8]; simp [hgl]
 have f9:=foQ hbS8 9
 have HH2:w8.cell? ⟨bS,9,none⟩=some (.slice qo Q.length qc)/\w8.cell? ⟨w.heap.size,0,none⟩=some (.int .i64 (p.1:Int))/\w8.cell? ⟨w.heap.size,1,none⟩=some (.int .i64 p.2.1)/\w8.cell? ⟨w.heap.size,2,none⟩=some (.int .i64 p.2.2):=⟨c9,coQ hbx8 0,coQ hbx8 1,coQ hbx8 2⟩
 refine hK.out _ _ HH2 ?_
 clear hK K' HH1 hown hg hat hbx8 hbS8
 try simp only [Act.put,sjA,sj0,sjS]
 iterate 2
  refine anyT_auto (v:=?_) rfl (by kernel_rfl) (fun _ _ _ h=>h) (Or.inl ⟨by rfl,?_⟩) HH2 inv (fun inv=>?_)
  rotate_left
  ·intro w hSw
   try dsimp only at hSw
   go_simp
   try with_reducible rfl
  simp only [Act.put,sjA,sj0,sjS]
 refine anyT_one (i:=10) (o:={dst:=none,op:=.store 154 (.tmp 34) (.tmp 32),type:=0,pos := "look.go:92",after:=#[{on:=9,ground:=.data},{on:=7,ground:=.data},{on:=7,ground:=.chain},{on:=0,ground:=.phase},{on:=1,ground:=.phase},{on:=2,ground:=.phase},{on:=3,ground:=.phase},{on:=4,ground:=.phase},{on:=5,ground:=.phase},{on:=6,ground:=.phase},{on:=7,ground:=.phase}],guard:=none}) (by kernel_rfl) rfl (fun K' hK=>?_)
 go_simp
 refine hK.out _ _ (fun h=>absurd h (by decide)) ?_
 clear hK K'
 try simp only [Act.put,sjA,sj0,sjS]
 refine anyT_done (by kernel_rfl) ?_ _
 go_wp2_with fail
 refine bodyPost_ret (results_none rfl _ _ _) rfl ?_
 have hfin:=sp_store (qv':=.slice ao (Q.length + 1) c) (Q:=Q ++ [p]) HF8.out hgl (by simp) (qcells_push Q p)
 exact ⟨rfl,LA',_,Q ++ [p],(HBX.out _ _ _ _ hfin).2,.inr ⟨by rw [HOLD.out]; exact HSUB.out,rfl,fun q=>by rw [HGET.out q,HOLD.out]⟩⟩
end Go.Proofs.YticmnfmijdgmbaaGreatDoor
