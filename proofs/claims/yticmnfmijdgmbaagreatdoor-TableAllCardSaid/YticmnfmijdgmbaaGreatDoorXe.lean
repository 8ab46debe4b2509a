import Derived.Test.YticmnfmijdgmbaaGreatDoorQMf
set_option linter.all false
set_option maxRecDepth 100000
set_option maxHeartbeats 8000000
namespace Go.Proofs.YticmnfmijdgmbaaGreatDoor
open Go Go.RowKit Go.Lib
open aO (It)
open Go.Maps (Keyed)
open aJ (u64 jd Com aZ inN top)
open aJ.cZ (Pl)
theorem zero69 (w:World):(zeroValue 69).run Tryz.prog w=.ok (u64 0) w:=by kernel_rfl
theorem GM:(Tryz.prog.info? 158).map (fun i=>(i.zero,i.size,i.bytes))=some (some (.agg #[.int .i64 0,.int .i64 0,.int .i64 0]),3,24):=by kernel_rfl
def Je (p:Pl):Prop:=(p.1:Int)<=9223372036854775807/\-9223372036854775808<=p.2.1/\p.2.1<=9223372036854775807/\-9223372036854775808<=p.2.2/\p.2.2<=9223372036854775807
theorem plKey {p:Pl}(h:Je p):∃ l,keyOf Tryz.prog 158 (wM p)=some l:=key158 _ _ _ (wf_i64 (by omega) h.1) (wf_i64 h.2.1 h.2.2.1) (wf_i64 h.2.2.2.1 h.2.2.2.2)
theorem LZ {L:List (Pl×Nat)}{p:Pl}{v:Nat}(h:(p,v)∈L):(wM p,u64 v)∈amap L:=List.mem_map.2 ⟨(p,v),h,rfl⟩
theorem Af {L:List (Pl×Nat)}{p:Pl}(h:p∉L.map (·.1)):∀ e∈amap L,e.1≠wM p:=by
 intro e he e2;obtain⟨q,hq,rfl⟩:=List.mem_map.1 he;exact h (List.mem_map.2 ⟨q,hq,plV_inj e2⟩)
theorem vS {w:World}{bA:Nat}{LA:List (Pl×Nat)}(h:bH Tryz.prog 158 w bA (amap LA)){p:Pl}(hp:Je p):(Instr.lookup 152 (.map (some bA)) (wM p) false).run Tryz.prog w=.ok (u64 (dD LA p)) w:=by
 obtain⟨l,hl⟩:=plKey hp;by_cases hin:p∈LA.map (·.1)
 ·obtain⟨e,he,rfl⟩:=List.mem_map.1 hin;rw[kJ (pz h.apart) (p:=e.1) (v:=e.2) he];exact h.sK um Tryz.underlying152 hl (LZ he)
 ·rw[oK hin];exact h.sN um Tryz.underlying152 hl (zero69 w) (Af hin)
theorem LY {w:World}{bA:Nat}{LA:List (Pl×Nat)}(h:bH Tryz.prog 158 w bA (amap LA)){p:Pl}(hp:Je p)(u:Nat) :
  ∃ w' LA',(Instr.mapUpdate 152 (.map (some bA)) (wM p) (u64 u)).run Tryz.prog w=.ok () w'/\bH Tryz.prog 158 w' bA (amap LA')/\w.grownBy w' (some bA)/\∀ q,dD LA' q=if q=p then u else dD LA q:=by
 obtain⟨l,hl⟩:=plKey hp;have hn:=pz h.apart;by_cases hin:p∈LA.map (·.1)
 ·obtain⟨e,he,rfl⟩:=List.mem_map.1 hin;obtain⟨j,hj⟩:=List.mem_iff_getElem?.1 he;have hjl:=(List.getElem?_eq_some_iff.1 hj).1;obtain⟨w',h1,h2,h3⟩:=h.change (v:=u64 u) um Tryz.underlying152 hl (j:=j) (u:=u64 e.2) (by unfold amap;rw[List.getElem?_map,hj];rfl);have e1:(amap LA).set j (wM e.1,u64 u)=amap (LA.set j (e.1,u)):=by unfold amap;rw[List.map_set]
  rw[e1]at h2;refine⟨w',LA.set j (e.1,u),h1,h2,h3,fun q=>?_⟩;have hn2:=pz h2.apart;by_cases hq:q=e.1
  ·rw[if_pos hq,hq];exact kJ hn2 (List.mem_iff_getElem?.2 ⟨j,by rw[List.getElem?_set_self hjl]⟩)
  ·rw[if_neg hq];by_cases hqin:q∈LA.map (·.1)
   ·obtain⟨f,hf,rfl⟩:=List.mem_map.1 hqin;rw[kJ hn (p:=f.1) (v:=f.2) hf];obtain⟨k,hk⟩:=List.mem_iff_getElem?.1 hf;refine kJ hn2 (List.mem_iff_getElem?.2 ⟨k,?_⟩);rw[List.getElem?_set_ne (fun e2=>hq (by subst e2;exact congrArg Prod.fst (Option.some.inj (hk.symm.trans hj))))];exact hk
   ·rw[oK hqin];refine oK fun hm=>?_;obtain⟨f,hf,rfl⟩:=List.mem_map.1 hm;rcases List.mem_or_eq_of_mem_set hf with h4 | h4
    ·exact hqin (List.mem_map.2 ⟨f,h4,rfl⟩)
    ·exact hq ((congrArg Prod.fst h4).trans rfl)
 ·obtain⟨w',h1,h2,h3⟩:=h.put (v:=u64 u) um Tryz.underlying152 hl (Af hin);have e1:amap LA++[(wM p,u64 u)]=amap (LA++[(p,u)]):=by unfold amap;rw[List.map_append];rfl
  rw[e1]at h2;refine⟨w',LA++[(p,u)],h1,h2,h3,fun q=>?_⟩;have hn2:=pz h2.apart;by_cases hq:q=p
  ·rw[if_pos hq,hq];exact kJ hn2 (List.mem_append_right _ (List.mem_singleton.2 rfl))
  ·rw[if_neg hq];by_cases hqin:q∈LA.map (·.1)
   ·obtain⟨f,hf,rfl⟩:=List.mem_map.1 hqin;rw[kJ hn (p:=f.1) (v:=f.2) hf];exact kJ hn2 (List.mem_append_left _ hf)
   ·rw[oK hqin];refine oK fun hm=>?_;rw[List.map_append]at hm;rcases List.mem_append.1 hm with h4 | h4
    ·exact hqin h4
    ·exact hq (by simpa using h4)
section
variable {B bS bA bC:Nat}{W w w':World}{G:GD}{gc:List Value}{LA LA':List (Pl×Nat)}{LC:List It}{qv qv':Value}{Q Q':List Pl}{rest:List Item}
theorem xE (h:az B W w (aC B bS bA bC G gc LA LC qv Q rest)):w.heap[bS]?=some (.cells (gc++[.map (some bA),.map (some bC),qv]).toArray 156 (0,0)):=h.ok 0 _ rfl
theorem qV (h:az B W w (aC B bS bA bC G gc LA LC qv Q rest)):bH Tryz.prog 158 w bA (amap LA):=h.ok 1 _ rfl
theorem oQ (h:az B W w (aC B bS bA bC G gc LA LC qv Q rest)):bH Tryz.prog 60 w bC (cmap G LC):=h.ok 2 _ rfl
theorem rX (h:az B W w (aC B bS bA bC G gc LA LC qv Q rest)):aI w B 3 qv Q.length (qcells Q):=h.ok 3 _ rfl
theorem zl (h:az B W w (aC B bS bA bC G gc LA LC qv Q rest))(hg:gc.length=7):w.cell? ⟨bS,7,none⟩=some (.map (some bA)):=by rw[ak (xE h)];simp[hg]
theorem xC (h:az B W w (aC B bS bA bC G gc LA LC qv Q rest))(hg:gc.length=7):w.cell? ⟨bS,8,none⟩=some (.map (some bC)):=by rw[ak (xE h)];simp[hg]
theorem zk (h:az B W w (aC B bS bA bC G gc LA LC qv Q rest))(hg:gc.length=7):w.cell? ⟨bS,9,none⟩=some qv:=by rw[ak (xE h)];simp[hg]
theorem bZ (h:az B W w (aC B bS bA bC G gc LA LC qv Q rest)){k:Nat}{v:Value}(hk:gc[k]?=some v):w.cell? ⟨bS,k,none⟩=some v:=by
 have hl:=(List.getElem?_eq_some_iff.1 hk).1;rw[ak (xE h),<-Array.getElem?_toList];show(gc++_)[k]?=_;rw[List.getElem?_append_left hl];exact hk
theorem sp_put (h:az B W w (aC B bS bA bC G gc LA LC qv Q rest))(hm:bH Tryz.prog 158 w' bA (amap LA'))(hg:w.grownBy w' (some bA)):az B W w' (aC B bS bA bC G gc LA' LC qv Q rest):=
 h.upd 1 rfl (lI 158 bA (amap LA')) (Touch.grown hg) hm fun b hb=>by
  have hb':b=bA:=by
   have:b∈[bA]:=hb;simpa using this
  subst hb';exact⟨.inl hb,hm.lt⟩
theorem CB (h:az B W w (aC B bS bA bC G gc LA LC qv Q rest)){p:Pl}(hown:aI w' B 3 qv' (Q.length+1) (qcells Q++Ep p))(hg:w.grownBy w' qv.ownBlock)(hat:qv'.ownBlock=qv.ownBlock\/qv'.ownBlock=some w.heap.size) :
  az B W w' (ae bS (.cells (gc++[.map (some bA),.map (some bC),qv]).toArray 156 (0,0))::lI 158 bA (amap LA)::lI 60 bC (cmap G LC)::aA B 3 qv' (Q.length+1) (qcells Q++Ep p)::rest):=
 h.bU 3 (sz:=3) (m:=Q.length+1) (ys:=qcells Q++Ep p) rfl hown hg hat
theorem xB {n:Nat}{xs:List Value}(h:az B W w (ae bS (.cells (gc++[.map (some bA),.map (some bC),qv]).toArray 156 (0,0))::lI 158 bA (amap LA)::lI 60 bC (cmap G LC)::aA B 3 qv' n xs::rest))(hgl:gc.length=7)(hn:Q.length=n)(hx:qcells Q=xs) :
  az B W (w.setCell ⟨bS,9,none⟩ qv') (aC B bS bA bC G gc LA LC qv' Q rest):=by
 have h2:=iq (k:=9) (v:=qv') h 0 rfl;have e1:((gc++[Value.map (some bA),.map (some bC),qv]).toArray.setIfInBounds 9 qv')=(gc++[.map (some bA),.map (some bC),qv']).toArray:=by
  rw[List.setIfInBounds_toArray];congr 1;rw[List.set_append_right _ _ (by omega),hgl];rfl
 rw[e1]at h2;unfold aC;rw[hn,hx];exact h2
theorem F9 {l:List Item}{y:Item}(h:az B W w (l++[y])):y.ok w:=h.ok l.length y (by simp)
theorem sp_drop {l:List Item}{y:Item}(h:az B W w (l++[y])):az B W w l:=
 h.pick l id (fun i x hx=>by rw[id,List.getElem?_append_left (List.getElem?_eq_some_iff.1 hx).1];exact hx) (fun i j _ _ e=>e)
theorem jH {P:Program}{o:Oper}{a:Act}{K:Act->World->Prop}{Qx:Exit->Act->World->Prop}(s x:Operand)(t e:TypeId)(ho:o.op=.call {callee:=.builtin .append,args:=#[s,x],argTypes:=#[t,t]})
  (z:Value) (sz bytes:Nat) (ht:P.underlying t=some (.slice e)) (hinfo:(P.info? e).map (fun i=>(i.zero,i.size,i.bytes))=some (some z,sz,bytes)) (hz1:z.cells.size=sz) (hby:bytes<=24)
  (v:Value) (n:Nat) (xs:List Value) (hs:a.eval s=v) (hown:aI w B sz v n xs) (g:Nat) (hx:a.eval x=.slice (some ⟨g,0,none⟩) 1 1) (qs:List Value) (hql:qs.length=sz) (hb:∀ j u,qs[j]?=some u->w.cell? ⟨g,j,none⟩=some u) (hq:∀ q∈qs,q.oneCell'=true) (hn:n<=1000000000000) (hB:B<=w.heap.size)
  (h:∀ ao c w',aI w' B sz (.slice ao (n+1) c) (n+1) (xs++qs)->w.grownBy w' v.ownBlock->((Value.slice ao (n+1) c).ownBlock=v.ownBlock\/(Value.slice ao (n+1) c).ownBlock=some w.heap.size)->K (a.put o.dst (.slice ao (n+1) c)) w'):o.wp P a w K Qx:=by
 obtain⟨v',w',hr,h2,h3,h4,ao,c,rfl⟩:=EC (w:=w) t o.type e z sz bytes ht hinfo hz1 hby B v n xs hown g qs hql hb hq hn hB;unfold Oper.wp execOp;simp only[ho,resolve,invoke,builtin,Sem.run_bind,Sem.run_pure,Result.andThen_ok,List.map_toArray,List.map_cons,List.map_nil,hs,hx,hr];exact h ao c w' h2 h3 h4
end
def AddP (B bS bA bC:Nat)(W:World)(G:GD)(gc:List Value)(LA:List (Pl×Nat))(LC:List It)(Q:List Pl)(rest:List Item)(p:Pl)(v:Nat)(e:Ending)(w':World):Prop:=
 e=.returned (.tuple #[])/\∃ LA' qv' Q',az B W w' (aC B bS bA bC G gc LA' LC qv' Q' rest)/\((aJ.fM v (dD LA p)/\LA'=LA/\Q'=Q)\/(¬ aJ.fM v (dD LA p)/\Q'=Q++[p]/\∀ q,dD LA' q=if q=p then dD LA p ||| v else dD LA q))
theorem add_any {B bS bA bC:Nat}{W w:World}{G:GD}{gc:List Value}{LA:List (Pl×Nat)}{LC:List It}{qv:Value}{Q:List Pl}{rest:List Item}(h:az B W w (aC B bS bA bC G gc LA LC qv Q rest))(hgl:gc.length=7)(p:Pl)(hp:Je p)(v:Nat)(hv:v<top)(hlow:dD LA p<top)(hQ:Q.length<=1000000000000) :
  Calls Tryz.prog 87 #[.pointer (some ⟨bS,0,none⟩),wM p,u64 v] w (AddP B bS bA bC W G gc LA LC Q rest p v):=by
 obtain⟨W1,e1⟩:=ai (w.alloc (.cells #[.int .i64 (p.1:Int),.int .i64 p.2.1,.int .i64 p.2.2] 158));have hb1:aj w W1:=dM e1;have n1:W1.heap[w.heap.size]?=some (.cells #[.int .i64 (p.1:Int),.int .i64 p.2.1,.int .i64 p.2.2] 158 (0,0)):=dO e1;have HF:=hid (show az B W W1 (aC B bS bA bC G gc LA LC qv Q (rest++[ae w.heap.size (.cells #[.int .i64 (p.1:Int),.int .i64 p.2.1,.int .i64 p.2.2] 158 (0,0))]))from h.add (ae w.heap.size (.cells #[.int .i64 (p.1:Int),.int .i64 p.2.1,.int .i64 p.2.2] 158 (0,0))) hb1 n1 (fun b hb=>by
  have:b∈[w.heap.size]:=hb;obtain rfl:b=w.heap.size:=by simpa using this
  exact⟨bJ _,(dZ n1)⟩))
 have HP:=hid hp;have HV:=hid hv;have HLO:=hid hlow;obtain⟨R,hR⟩:=ai (rest++[ae w.heap.size (.cells #[.int .i64 (p.1:Int),.int .i64 p.2.1,.int .i64 p.2.2] 158 (0,0))]);rw[hR]at HF;have HRR:=hid hR;have HBX:=hid (show ∀ w' LA' qv' (Q':List Pl),az B W w' (aC B bS bA bC G gc LA' LC qv' Q' R)->w'.heap[w.heap.size]?=some (.cells #[.int .i64 (p.1:Int),.int .i64 p.2.1,.int .i64 p.2.2] 158 (0,0))/\az B W w' (aC B bS bA bC G gc LA' LC qv' Q' rest)from fun w' LA' qv' Q' hf=>by
  rw[<-hR]at hf;exact⟨F9 (l:=aC B bS bA bC G gc LA' LC qv' Q' rest) hf,sp_drop hf⟩)
 have hBw:B<=w.heap.size:=eX h.le h.bel.size;obtain⟨old,hold⟩:=ai (dD LA p);have HOLD:=hid hold;obtain⟨we,ewe⟩:=ai (W1.drew);have hbe:aj W1 we:=pW ewe;have HFe:=hid (HF.o.below hbe);have HNe:=hid (HBX.o we LA qv Q HFe.o).1;have HS:=hid (show ∀ w',w'=we->(ay w' bS 7 (.map (some bA))/\ay w' w.heap.size 0 (.int .i64 (p.1:Int))/\ay w' w.heap.size 1 (.int .i64 p.2.1)/\ay w' w.heap.size 2 (.int .i64 p.2.2))from fun w' e=>by
  subst e;exact⟨zl HFe.o hgl,ak HNe.o 0,ak HNe.o 1,ak HNe.o 2⟩)
 have HH0:=HS.o we rfl;have hrun:=vS (qV HFe.o) hp;rw[hold]at hrun;have HRUN:=hid hrun;unfold wM at hrun;have HRUN2:=hid hrun;unfold wM;clear h hb1 n1 hp hv hlow hold hbe hrun hR;go_enter Tryz.func87,Tryz.ntmps87;go_wp2_with fail;refine aW 6 (fun w'=>w'.cell? ⟨bS,7,none⟩=some (.map (some bA))/\w'.cell? ⟨w.heap.size,0,none⟩=some (.int .i64 (p.1:Int))/\w'.cell? ⟨w.heap.size,1,none⟩=some (.int .i64 p.2.1)/\w'.cell? ⟨w.heap.size,2,none⟩=some (.int .i64 p.2.2)) (by kernel_rfl) (by rw[ewe];exact HH0) (fun inv hHeld=>?_);rw[ewe];clear hHeld;iterate 5
  refine aF (v:=?_) rfl (by kernel_rfl) (fun _ _ _ h=>h) (Or.inl ⟨by rfl,?_⟩) HH0 inv (fun inv=>?_)
  rotate_left
  ·intro w hSw;try dsimp only at hSw
   go_simp;try with_reducible rfl
  simp only[Act.put,bP,bQ,bK]
 refine eu (i:=5) rfl (by kernel_rfl) (by decide) inv (fun inv K' hK=>?_);simp only[Region.wanted];rw[if_pos trivial];refine Jl (.tmp 10) (.tmp 11) 152 false rfl rfl (.agg #[.int .i64 (p.1:Int),.int .i64 p.2.1,.int .i64 p.2.2]) (u64 old) rfl HRUN2.o ?_;refine hK.out _ _ HH0 ?_;clear hK K';try simp only[Act.put,bP,bQ,bK]
 refine fQ (i:=6) rfl (by kernel_rfl) (fun K' hK=>?_);go_simp;refine hK.out _ _ (fun h=>absurd h (by decide)) ?_;clear hK K';try simp only[Act.put,bP,bQ,bK]
 refine aQ (by kernel_rfl) ?_ _;clear HS;go_wp2_with fail;refine(aJ.In_any v old HV.o (by rw[<-HOLD.o];exact HLO.o) we).mono ?_;rintro e w2 ⟨rfl,rfl⟩;by_cases hsub:aJ.fM v old
 ·have hin:inN v old=true:=(aJ.GN HV.o).2 hsub;rw[hin];go_wp2_with fail;refine bodyPost_ret (results_none rfl _ _ _) rfl ?_;exact⟨rfl,LA,qv,Q,(HBX.o we LA qv Q HFe.o).2,.inl ⟨by rw[HOLD.o];exact hsub,rfl,rfl⟩⟩
 have hin:inN v old=false:=by
  cases hb:inN v old
  ·rfl
  ·exact absurd ((aJ.GN HV.o).1 hb) hsub
 rw[hin];have HSUB:=hid hsub;clear hin hsub HH0;obtain⟨wf,ewf⟩:=ai (we.drew);have hbf:aj we wf:=pW ewf;have HFf:=hid (HFe.o.below hbf);have HNf:=hid (HBX.o wf LA qv Q HFf.o).1;have HH0:wf.cell? ⟨bS,7,none⟩=some (.map (some bA))/\wf.cell? ⟨w.heap.size,0,none⟩=some (.int .i64 (p.1:Int))/\wf.cell? ⟨w.heap.size,1,none⟩=some (.int .i64 p.2.1)/\wf.cell? ⟨w.heap.size,2,none⟩=some (.int .i64 p.2.2):=⟨zl HFf.o hgl,ak HNf.o 0,ak HNf.o 1,ak HNf.o 2⟩;obtain⟨wm,LA',hrm,hmm,hgm,hget⟩:=LY (qV HFf.o) HP.o (old ||| v);unfold wM at hrm;have HRM:=hid hrm;have HGET:=hid hget;have HFm:=hid (sp_put HFf.o hmm hgm);clear hbf hrm hmm hgm hget;go_wp2_with fail;refine aW 8 (fun w'=>w'.cell? ⟨bS,7,none⟩=some (.map (some bA))/\w'.cell? ⟨w.heap.size,0,none⟩=some (.int .i64 (p.1:Int))/\w'.cell? ⟨w.heap.size,1,none⟩=some (.int .i64 p.2.1)/\w'.cell? ⟨w.heap.size,2,none⟩=some (.int .i64 p.2.2)) (by kernel_rfl) (by rw[ewf];exact HH0) (fun inv hHeld=>?_);rw[ewf];clear hHeld ewf;iterate 7
  refine aF (v:=?_) rfl (by kernel_rfl) (fun _ _ _ h=>h) (Or.inl ⟨by rfl,?_⟩) HH0 inv (fun inv=>?_)
  rotate_left
  ·intro w hSw;try dsimp only at hSw
   go_simp;try with_reducible rfl
  simp only[Act.put,bP,bQ,bK]
 refine eu (i:=7) rfl (by kernel_rfl) (by decide) inv (fun inv K' hK=>?_);go_simp;refine(aJ.oM old v (by rw[<-HOLD.o];exact HLO.o) HV.o wf).mono ?_;rintro e w2 ⟨rfl,rfl⟩;refine hK.out _ _ HH0 ?_;clear hK K';try simp only[Act.put,bP,bQ,bK]
 refine fQ (i:=8) rfl (by kernel_rfl) (fun K' hK=>?_);simp only[Region.wanted];rw[if_pos trivial];refine tN (.tmp 20) (.tmp 21) (.tmp 24) 152 rfl rfl (.agg #[.int .i64 (p.1:Int),.int .i64 p.2.1,.int .i64 p.2.2]) (u64 (old ||| v)) rfl rfl HRM.o ?_;refine hK.out _ _ (fun h=>absurd h (by decide)) ?_;clear hK K';try simp only[Act.put,bP,bQ,bK]
 refine aQ (by kernel_rfl) ?_ _;clear HH0;obtain⟨wg,ewg⟩:=ai (wm.drew);have hbg:aj wm wg:=pW ewg;have HFg:=hid (HFm.o.below hbg);have HNg:=hid (HBX.o wg LA' qv Q HFg.o).1;have HH0:wg.cell? ⟨bS,9,none⟩=some qv/\wg.cell? ⟨w.heap.size,0,none⟩=some (.int .i64 (p.1:Int))/\wg.cell? ⟨w.heap.size,1,none⟩=some (.int .i64 p.2.1)/\wg.cell? ⟨w.heap.size,2,none⟩=some (.int .i64 p.2.2):=⟨zk HFg.o hgl,ak HNg.o 0,ak HNg.o 1,ak HNg.o 2⟩;obtain⟨wq,eq⟩:=ai (wg.alloc (.cells #[.int .i64 (p.1:Int),.int .i64 p.2.1,.int .i64 p.2.2] 158));have hbq:aj wg wq:=dM eq;have nq:wq.heap[wg.heap.size]?=some (.cells #[.int .i64 (p.1:Int),.int .i64 p.2.1,.int .i64 p.2.2] 158 (0,0)):=dO eq;have HFq:=hid (HFg.o.below hbq);have HNq:=hid (HBX.o wq LA' qv Q HFq.o).1;have HH1:wq.cell? ⟨bS,9,none⟩=some qv/\wq.cell? ⟨w.heap.size,0,none⟩=some (.int .i64 (p.1:Int))/\wq.cell? ⟨w.heap.size,1,none⟩=some (.int .i64 p.2.1)/\wq.cell? ⟨w.heap.size,2,none⟩=some (.int .i64 p.2.2):=⟨zk HFq.o hgl,ak HNq.o 0,ak HNq.o 1,ak HNq.o 2⟩;have HCQ:=hid (show ∀ j u,(Ep p)[j]?=some u->wq.cell? ⟨wg.heap.size,j,none⟩=some u from fun j u hj=>by
  rw[ak nq,<-hj,<-List.getElem?_toArray];rfl)
 have HBq:=hid (show B<=wq.heap.size from eX HFq.o.le HFq.o.bel.size);obtain⟨qo,qc,rfl⟩:=(rX HFq.o).shape;have hql:Q.length=Q.length:=rfl;clear hbg hbq nq;go_wp2_with fail;refine aW 10 (fun w'=>w'.cell? ⟨bS,9,none⟩=some (.slice qo Q.length qc)/\w'.cell? ⟨w.heap.size,0,none⟩=some (.int .i64 (p.1:Int))/\w'.cell? ⟨w.heap.size,1,none⟩=some (.int .i64 p.2.1)/\w'.cell? ⟨w.heap.size,2,none⟩=some (.int .i64 p.2.2)) (by kernel_rfl) (by rw[ewg];exact HH0) (fun inv hHeld=>?_);rw[ewg];clear hHeld ewg;iterate 6
  refine aF (v:=?_) rfl (by kernel_rfl) (fun _ _ _ h=>h) (Or.inl ⟨by rfl,?_⟩) HH0 inv (fun inv=>?_)
  rotate_left
  ·intro w hSw;try dsimp only at hSw
   go_simp;try with_reducible rfl
  simp only[Act.put,bP,bQ,bK]
 refine eu (i:=6) rfl (by kernel_rfl) (by decide) inv (fun inv K' hK=>?_);go_simp;refine hK.out _ _ HH1 ?_;clear hK K' HH0;try simp only[Act.put,bP,bQ,bK]
 refine eu (i:=7) rfl (by kernel_rfl) (by decide) inv (fun inv K' hK=>?_);simp only[Region.wanted];rw[if_pos trivial];refine jH (.tmp 29) (.tmp 31) 154 158 rfl (.agg #[.int .i64 0,.int .i64 0,.int .i64 0]) 3 24 Tryz.underlying154 GM rfl (by decide) (.slice qo Q.length qc) Q.length (qcells Q) rfl (rX HFq.o) wg.heap.size rfl (Ep p) rfl HCQ.o (fun q hq=>by
  unfold Ep at hq;simp only[List.mem_cons,List.not_mem_nil,or_false]at hq;rcases hq with rfl | rfl | rfl<;>rfl) hQ HBq.o ?_
 intro ao c w8 hown hg hat;have HF8:=hid (CB HFq.o hown hg hat);have hbx8:w8.heap[w.heap.size]?=some (.cells #[.int .i64 (p.1:Int),.int .i64 p.2.1,.int .i64 p.2.2] 158 (0,0)):=by
  have hf:=HF8.o;rw[<-HRR.o]at hf;exact F9 (l:=ae bS _::lI 158 bA (amap LA')::lI 60 bC (cmap G LC)::aA B 3 _ (Q.length+1) (qcells Q++Ep p)::rest) hf
 have hbS8:w8.heap[bS]?=some (.cells (gc++[Value.map (some bA),Value.map (some bC),Value.slice qo Q.length qc]).toArray 156 (0,0)):=HF8.o.ok 0 _ rfl;have c9:w8.cell? ⟨bS,9,none⟩=some (.slice qo Q.length qc):=by rw[ak hbS8];simp[hgl]
 have f9:=bY hbS8 9;have HH2:w8.cell? ⟨bS,9,none⟩=some (.slice qo Q.length qc)/\w8.cell? ⟨w.heap.size,0,none⟩=some (.int .i64 (p.1:Int))/\w8.cell? ⟨w.heap.size,1,none⟩=some (.int .i64 p.2.1)/\w8.cell? ⟨w.heap.size,2,none⟩=some (.int .i64 p.2.2):=⟨c9,ak hbx8 0,ak hbx8 1,ak hbx8 2⟩;refine hK.out _ _ HH2 ?_;clear hK K' HH1 hown hg hat hbx8 hbS8;try simp only[Act.put,bP,bQ,bK]
 iterate 2
  refine aF (v:=?_) rfl (by kernel_rfl) (fun _ _ _ h=>h) (Or.inl ⟨by rfl,?_⟩) HH2 inv (fun inv=>?_)
  rotate_left
  ·intro w hSw;try dsimp only at hSw
   go_simp;try with_reducible rfl
  simp only[Act.put,bP,bQ,bK]
 refine fQ (i:=10) rfl (by kernel_rfl) (fun K' hK=>?_);go_simp;refine hK.out _ _ (fun h=>absurd h (by decide)) ?_;clear hK K';try simp only[Act.put,bP,bQ,bK]
 refine aQ (by kernel_rfl) ?_ _;go_wp2_with fail;refine bodyPost_ret (results_none rfl _ _ _) rfl ?_;have hfin:=xB (qv':=.slice ao (Q.length+1) c) (Q:=Q++[p]) HF8.o hgl (by simp) (vW Q p);exact⟨rfl,LA',_,Q++[p],(HBX.o _ _ _ _ hfin).2,.inr ⟨by rw[HOLD.o];exact HSUB.o,rfl,fun q=>by rw[HGET.o q,HOLD.o]⟩⟩
end Go.Proofs.YticmnfmijdgmbaaGreatDoor
