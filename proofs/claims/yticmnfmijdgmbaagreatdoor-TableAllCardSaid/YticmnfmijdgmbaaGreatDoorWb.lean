import Derived.Test.YticmnfmijdgmbaaGreatDoorYh
import Derived.Test.YticmnfmijdgmbaaGreatDoorUb
import Derived.Test.YticmnfmijdgmbaaGreatDoorZn
set_option linter.all false
set_option maxRecDepth 100000
set_option maxHeartbeats 16000000
namespace Go.Proofs.YticmnfmijdgmbaaGreatDoor
open Go Go.RowKit Go.Lib
open aO (It ag aN dn ax aY bg fD aP)
open aJ (u64 aZ top fM E0 F0)
open aJ.cZ (Pl iI xA jD nI RX jX dJ places bi dm jQ)
theorem zx {fn:Func}(h:fn.results=#[.tmp 2,.cell 3 38,.tmp 4])(tmps:Array Value)(w:World)(g:Nat)(a b v:Value)(n:Int)
  (hv:tmps.getD 2 undef=v) (hp:tmps.getD 3 undef=.pointer (some ⟨g,0,none⟩)) (hn:tmps.getD 4 undef=.int .i64 n) (hg:w.heap[g]?=some (.cells #[a,b] 38 (0,0))) :
  (results fn tmps).run Tryz.prog w=.ok (.tuple #[v,.agg #[a,b],.int .i64 n]) w:=by
 have e:(results fn tmps).run Tryz.prog w=((asAddr (tmps.getD 3 undef)).run Tryz.prog w).andThen fun a w₁=>((loadVar 38 a).run Tryz.prog w₁).andThen fun u w₂=>.ok (.tuple #[tmps.getD 2 undef,u,tmps.getD 4 undef]) w₂:=by
  simp only[results,h];simp[Sem.run_bind,Result.andThen]
 rw[e,hv,hp,hn];simp[asAddr,Result.andThen,run_loadVar_row w g 38 38 #[a,b] (0,0) _ hg Tryz.underlying38 rfl (by rw[Jz];rfl)]
theorem CY (l:List (Value×Value))(p:Value×Value):rcells (l++[p])=rcells l++[p.1,p.2]:=by unfold rcells;rw[List.flatMap_append];rfl
theorem info52:(Tryz.prog.info? 52).map (fun i=>(i.zero,i.size,i.bytes))=some (some (.agg #[.slice none 0 0,.slice none 0 0]),2,48):=by kernel_rfl
theorem Jw (C:Nat->List It)(i:Nat):xA C (fun _=>0) i=List.replicate (C i).length 0:=by
 unfold aJ.cZ.xA;rw[List.map_const']
section
variable {B i:Nat}{W w w':World}{l1:List Item}{GB:List Nat}{C:Nat->List It}{A:Pl->Nat}
theorem IK (h:az B W w (l1++(bI GB C A i++[])))(hl:GB.length=i)(hb:aj w w')(hn:w'.heap[w.heap.size]?=some (.cells (aJ.sets (xA C A i)) 69 (0,0))):az B W w' (l1++(bI (GB++[w.heap.size]) C A (i+1)++[])):=by
 have h1:=h.add (ae w.heap.size (.cells (aJ.sets (xA C A i)) 69 (0,0))) hb hn (fun b hb2=>by
  have:b∈[w.heap.size]:=hb2;obtain rfl:b=w.heap.size:=by simpa using this
  exact⟨bJ _,(dZ hn)⟩)
 have e:bI (GB++[w.heap.size]) C A (i+1)=bI GB C A i++[ae w.heap.size (.cells (aJ.sets (xA C A i)) 69 (0,0))]:=by
  unfold bI;rw[List.range_succ,List.map_append];congr 1
  ·refine List.map_congr_left fun j hj=>?_;have hj:j<GB.length:=by rw[hl];exact List.mem_range.1 hj
   rw[dL,List.getElem?_append_left hj,<-dL]
  ·rw[List.map_singleton,dL,List.getElem?_append_right (by omega)];rw[hl];simp
 rw[e];simpa only[List.append_assoc,List.append_nil] using h1
end
theorem Ei.push {C:Nat->List It}{i:Nat}{F:List (Nat×List It)}{GB:List Nat}{LL:List (Value×Value)}(h:Ei C i F GB LL)(hl:GB.length=i)(g c gb:Nat) :
  Ei C (i+1) (F++[(g,C i)]) (GB++[gb]) (LL++[(.slice (some ⟨g,0,none⟩) (C i).length c,.slice (some ⟨gb,0,none⟩) (C i).length (C i).length)]) where
 len:=by rw[List.length_append,h.len];rfl
 at_ j hj:=by
  by_cases e:j<i
  ·obtain⟨g',c',h1,h2⟩:=h.at_ j e;refine⟨g',c',?_,List.mem_append_left _ h2⟩;rw[List.getElem?_append_left (by rw[h.len];exact e),h1,dL,dL,List.getElem?_append_left (by omega)]
  ·obtain rfl:j=i:=by omega
   refine⟨g,c,?_,List.mem_append_right _ (by simp)⟩;rw[List.getElem?_append_right (by rw[h.len];exact bJ _),h.len,dL,List.getElem?_append_right (by omega),hl];simp
theorem c_ne {G:GD}{n:Nat}{E:List Bool}{F:List Nat}(hb:aN G n){i:Nat}(hi:i<n):(bi G n E F).C i≠[]:=by
 obtain⟨hI,ha,hl⟩:=hb.inv;rcases Nat.eq_zero_or_pos i with e | e
 ·subst e;exact fun h=>by
   have:=aJ.cZ.jC (E:=E) (F:=F) hb;rw[h]at this;cases this
 ·obtain⟨j,k,R,a1,a2,a3,a4,a5⟩:=hI.come i e (by omega);obtain⟨s,hs⟩:∃ s,(aO.cO G)[k]?=some s:=⟨_,dH a5⟩;rcases hI.gY a1 hs a3 a4 with⟨e1,_⟩ | ⟨q,e1,_,_,e4⟩
  ·omega
  ·obtain rfl:i=q:=by omega
   have hne:=hI.kers.some_ _ (List.mem_of_getElem? e4);obtain⟨y,hy⟩:=List.exists_mem_of_ne_nil _ hne;obtain⟨x,hx,hbx,rfl⟩:=aO.iU.1 hy;have:(x.1,x.2+1)∈(bi G n E F).C i:=aJ.cZ.iV.2 (.base _ (by rw[aO.getD_get e4];exact hy) (aJ.cZ.oZ hbx));exact fun h=>by rw[h]at this;cases this
theorem LP {W w':World}{av:Value}{ker:List (List It)}{nx:List (List Int)}{bR:Nat}(h:jY W av ker nx)(hk:∀ i,i<ker.length->0<(ker.getD i []).length)(hn:∀ i,i<nx.length->0<(nx.getD i []).length)
  (hR:W.heap[bR]?=some (.cells #[.slice none 0 0,.slice none 0 0] 38 (0,0))) (hb:∀ b,b≠bR->b<W.heap.size->w'.heap[b]?=W.heap[b]?):jY w' av ker nx:=by
 have key:∀ (b j:Nat) (u:Value),u≠.slice none 0 0->W.cell? ⟨b,j,none⟩=some u->w'.cell? ⟨b,j,none⟩=some u:=fun b j u hu hc=>by
  have hne:b≠bR:=fun e=>by
   subst e;rw[ak hR j]at hc
   match j,hc with
   | 0,hc=>exact hu (Option.some.inj hc).symm
   | 1,hc=>exact hu (Option.some.inj hc).symm
   | j+2,hc=>simp at hc
  rw[World.cell?_of_block (a:=⟨b,j,none⟩) (hb b hne (World.block_lt_of_cell? W _ hc))];exact hc
 have int_ne:∀ z:Int,(Value.int .i64 z)≠.slice none 0 0:=fun z e=>by cases e
 have slice_ne:∀ {v:Value}{n:Nat}{p:Nat->Nat->Nat->Prop},eU v n p->0<n->v≠.slice none 0 0:=fun⟨a,c,e,_,_⟩ h0 e2=>by
  rw[e]at e2;injection e2 with _ e3;omega
 obtain⟨kv,nv,e,h1,h2⟩:=h;refine⟨kv,nv,e,?_,?_⟩
 ·obtain⟨a,c,e1,hl,hx⟩:=h1;refine⟨a,c,e1,hl,fun h0=>?_⟩;obtain⟨b,off,e2,hq⟩:=hx h0;refine⟨b,off,e2,fun i hi=>?_⟩;obtain⟨u,hu,hit⟩:=hq i hi;exact⟨u,key _ _ _ (slice_ne hit (hk i hi)) hu,eU.mono hit fun _ _ _ ⟨x1,x2⟩=>⟨key _ _ _ (int_ne _) x1,key _ _ _ (int_ne _) x2⟩⟩
 ·obtain⟨a,c,e1,hl,hx⟩:=h2;refine⟨a,c,e1,hl,fun h0=>?_⟩;obtain⟨b,off,e2,hq⟩:=hx h0;refine⟨b,off,e2,fun i hi=>?_⟩;obtain⟨u,hu,hit⟩:=hq i hi;exact⟨u,key _ _ _ (slice_ne hit.1 (hn i hi)) hu,eU.mono hit.1 fun _ _ _ x1=>key _ _ _ (int_ne _) x1,hit.2⟩
theorem ker_pos {G:GD}{n:Nat}(hO:aN G n){i:Nat}(hi:i<(ag G n).ker.length):0<((ag G n).ker.getD i []).length:=by
 rcases Nat.eq_zero_or_pos ((ag G n).ker.getD i []).length with h | h
 ·exfalso;have h0:=List.eq_nil_of_length_eq_zero h;obtain⟨σ,γ,hp⟩:=wQ.Gq (D:=fun _ _=>[]) hO i (by rw[hO.inv.2.2]at hi;exact hi);obtain⟨p,d,hc,_⟩:=wQ.zy hO hp;have h1:(p,(d:Int))∈aP G ((ag G n).ker.getD i []):=hc.2;rw[h0,aO.yD]at h1;cases h1
 ·exact h
theorem nx_pos {G:GD}{n:Nat}(hV:aB G=true)(hO:aN G n){i:Nat}(hi:i<(ag G n).nx.length):0<((ag G n).nx.getD i []).length:=by
 have h1:=(rO.built hO) ((ag G n).nx.getD i []) (by rw[dL,dH hi];exact List.getElem_mem _);have:=dR hV;omega
def RAllP (G:GD)(w:World)(e:Ending)(w':World):Prop:=
 aj w w'/\((∃ er:Int,((er=1/\aB G=false)\/(er=4/\∃ n,dn G n/\aB G=true))/\e=.returned (.tuple #[.slice none 0 0,.agg #[.slice none 0 0,.slice none 0 0],.int .i64 er])) \/
  (aB G=true/\∃ n,aN G n/\∃ v ko kn kc no nn nc A,e=.returned (.tuple #[v,.agg #[.slice ko kn kc,.slice no nn nc],.int .i64 0])/\dm (dJ (bi G n (E0 G) (F0 G))) (places (bi G n (E0 G) (F0 G)) n) (0,(-1,0)) (aZ 63) A/\qO w' v n (bi G n (E0 G) (F0 G)).C A/\jY w' (.agg #[.slice ko kn kc,.slice no nn nc]) (ag G n).ker (ag G n).nx))
theorem Dv {B n rb rf rc:Nat}{W w:World}{F:List (Nat×List It)}{GB:List Nat}{C:Nat->List It}{A:Pl->Nat}{LL:List (Value×Value)}(h:az B W w ([aA B 2 (.slice (some ⟨rb,rf,none⟩) n rc) n (rcells LL),dY F]++(bI GB C A n++[])))(hR:Ei C n F GB LL)(hC:∀ i,(C i).length<=1573)(hn:n<=2000)
  {w':World}(hw:∀ g,B<=g->g<w.heap.size->w'.heap[g]?=w.heap[g]?):qO w' (.slice (some ⟨rb,rf,none⟩) n rc) n C A:=by
 have hq:aI w B 2 (.slice (some ⟨rb,rf,none⟩) n rc) n (rcells LL):=h.ok 0 _ rfl;have hz:(dY F).ok w:=h.ok 1 _ rfl;have cell:∀ (g k:Nat) (u:Value),B<=g->w.cell? ⟨g,k,none⟩=some u->w'.cell? ⟨g,k,none⟩=some u:=fun g k u hg hc=>by
  rw[World.cell?_of_block (a:=⟨g,k,none⟩) (hw g hg (World.block_lt_of_cell? w _ hc))];exact hc
 refine⟨_,_,rfl,by omega,fun _=>⟨rb,rf,rfl,fun i hi=>?_⟩⟩;obtain⟨g,c,h1,h2⟩:=hR.at_ i hi;obtain⟨g',c',k1,k2,k3⟩:=uT (r0:=bI GB C A n++[]) h hR hi;have hrb:B<=rb:=by
  obtain⟨hl,⟨e,_⟩ | ⟨g3,off,cap,e,hB,_⟩⟩:=hq
  ·cases e
  ·injection e with e1 e2 e3;injection e1 with e1;injection e1 with e1 e4;subst e1;exact hB
 obtain⟨q0,q1⟩:=jg h1;have c0:w.cell? ⟨rb,rf+i*2,none⟩=some (.slice (some ⟨g,0,none⟩) (C i).length c):=by
  obtain⟨hl,⟨e,_⟩ | ⟨g3,off,cap,e,_,_,_,_,h3,_⟩⟩:=hq
  ·cases e
  ·injection e with e1 e2 e3;injection e1 with e1;injection e1 with e1 e4;subst e1;subst e4;exact h3 _ _ q0
 have hgB:B<=g:=(h.lt 1 _ rfl g (List.mem_map.2 ⟨(g,C i),h2,rfl⟩)).1;have hbB:B<=GB.getD i 0:=(h.lt (2+i) _ (by rw[List.getElem?_append_right (by simp)];simp only[List.length_cons,List.length_nil];rw[show 2+i-(0+1+1)=i by omega,List.getElem?_append_left (by rw[tC];exact hi)];exact yH hi) (GB.getD i 0) (show GB.getD i 0∈[GB.getD i 0]by simp)).1;have hrow:=hz _ h2;refine⟨_,_,cell _ _ _ hrb c0,cell _ _ _ hrb k2,?_,?_⟩
 ·have:=hC i;refine⟨_,_,rfl,by omega,fun _=>⟨g,0,rfl,fun k hk=>?_⟩⟩;have hr:=hrow k hk;have e:(C i).getD k (0,0)=(C i)[k]:=by rw[dL,dH hk];rfl
  show w'.cell? ⟨g,0+k*2,none⟩=some (.int .i64 ((C i).getD k (0,0)).1)/\w'.cell? ⟨g,0+k*2+1,none⟩=some (.int .i64 ((C i).getD k (0,0)).2);rw[e,Nat.zero_add];exact⟨cell _ _ _ hgB hr.1,cell _ _ _ hgB hr.2.1⟩
 ·have:=hC i;have hb:=zS h hi;refine⟨_,_,by rw[List.length_map],by rw[List.length_map];omega,fun _=>⟨GB.getD i 0,0,rfl,fun k hk=>?_⟩⟩;have hc:=aJ.mM hb (i:=k) hk;show w'.cell? ⟨GB.getD i 0,0+k,none⟩=_;rw[Nat.zero_add];exact cell _ _ _ hbB hc
theorem MO {G:GD}{gv:Value}{w:World}(h:fZ w gv G):Calls Tryz.prog 18 #[gv] w (RAllP G w):=by
 have HGr:=hid h;obtain⟨tv,ov,sv,pv,tf,rv,h⟩:=h;have hgv:=h.eq;subst hgv;obtain⟨W1,e1⟩:=ai (w.alloc (.cells #[tv,ov,sv,pv,.int .i64 G.start] 27));have n1:W1.heap[w.heap.size]?=some (.cells #[tv,ov,sv,pv,.int .i64 G.start] 27 (0,0)):=dO e1;have hb1:aj w W1:=dM e1;obtain⟨W2,e2⟩:=ai (W1.alloc (.cells #[.slice none 0 0,.slice none 0 0] 38));obtain⟨bR,hbR⟩:=ai (W1.heap.size);have n2:W2.heap[bR]?=some (.cells #[.slice none 0 0,.slice none 0 0] 38 (0,0)):=by rw[<-e2,<-hbR];exact aK _ _
 have hb2:aj W1 W2:=dM e2;have HB2:=hid (hb1.trans (hb2.mono hb1.size));have HN2:=hid ((hb2.block _ (dZ n1)).trans n1);have HR2:=hid n2;have hRle:w.heap.size<=bR:=by rw[<-hbR];exact hb1.size
 obtain⟨c0,c1,c2,c3,c4⟩:=cells5 HN2.o;have KB:=hid (FK (HGr.o.below HB2.o));clear h n1 n2 hb1 hb2;go_enter Tryz.func18,Tryz.ntmps18;go_wp2_with fail;refine KB.o.mono ?_;rintro e w3 ⟨hb3,hcase⟩;have HB3:=fJ HB2 hb3;have HN3:=hid ((hb3.block _ (dZ HN2.o)).trans HN2.o);have HR3:=hid ((hb3.block _ (dZ HR2.o)).trans HR2.o);try rw[hbR]
 clear hb3 KB c0 c1 c2 c3 c4 e1 e2 hbR HR2;have hcase2:(∃ er:Int,((er=1/\aB G=false)\/(er=4/\∃ n,dn G n/\aB G=true))/\e=.returned (.tuple #[.agg #[.slice none 0 0,.slice none 0 0],.int .i64 er]))\/(aB G=true/\∃ n,aN G n/\∃ av,e=.returned (.tuple #[av,.int .i64 0])/\jY w3 av (ag G n).ker (ag G n).nx):=by
  rcases hcase with⟨h1,h2⟩ | ⟨hv,n,h2 | ⟨h2,h3⟩⟩
  ·exact .inl ⟨1,.inl ⟨rfl,h1⟩,h2⟩
  ·exact .inl ⟨4,.inr ⟨rfl,n,h2.1,hv⟩,h2.2⟩
  ·exact .inr ⟨hv,n,h2,h3⟩
 clear hcase;rcases hcase2 with⟨er,her,rfl⟩ | ⟨hval,n,hok,av,rfl,hav⟩
 ·obtain⟨wA,eA⟩:=ai (w3.alloc (.cells #[.slice none 0 0,.slice none 0 0] 38));have nA:wA.heap[w3.heap.size]?=some (.cells #[.slice none 0 0,.slice none 0 0] 38 (0,0)):=dO eA;have a0:ay wA w3.heap.size 0 (.slice none 0 0):=ak nA 0;have g0:=bY nA 0;obtain⟨wb,eb⟩:=ai (wA.setCell ⟨w3.heap.size,0,none⟩ (.slice none 0 0));have nb:wb.heap[w3.heap.size]?=some (.cells #[.slice none 0 0,.slice none 0 0] 38 (0,0)):=dK eb nA;have a1:ay wb w3.heap.size 1 (.slice none 0 0):=ak nb 1;have g1:=bY nb 1;obtain⟨wc,ec⟩:=ai (wb.setCell ⟨w3.heap.size,1,none⟩ (.slice none 0 0));have nc:wc.heap[w3.heap.size]?=some (.cells #[.slice none 0 0,.slice none 0 0] 38 (0,0)):=dK ec nb;have h3c:aj w3 wc:=by
   rw[<-ec,<-eb,<-eA];exact(((eH _ _).alloc (bJ _) _).setCell (bJ _) _).setCell (bJ _) _
  have HBC:=fJ HB3 h3c;have HRC:=hid ((h3c.block _ (dZ HR3.o)).trans HR3.o);have hlt:=(dZ HR3.o);obtain⟨wd,ewd⟩:=ai (wc.drew);have hbd:aj wc wd:=pW ewd;have nd:=(hbd.block _ (dZ nc)).trans nc;have nr:=(hbd.block _ (dZ HRC.o)).trans HRC.o;have HH0:wd.cell? ⟨w3.heap.size,0,none⟩=some (.slice none 0 0)/\wd.cell? ⟨w3.heap.size,1,none⟩=some (.slice none 0 0):=⟨ak nd 0,ak nd 1⟩;have r0:ay wd bR 0 (.slice none 0 0):=ak nr 0;have f0:=bY nr 0;obtain⟨we,ee⟩:=ai (wd.setCell ⟨bR,0,none⟩ (.slice none 0 0));have nr1:we.heap[bR]?=some (.cells #[.slice none 0 0,.slice none 0 0] 38 (0,0)):=dK ee nr;have r1:ay we bR 1 (.slice none 0 0):=ak nr1 1;have f1:=bY nr1 1;obtain⟨wg,eg⟩:=ai (we.setCell ⟨bR,1,none⟩ (.slice none 0 0));have HNB:=hid (show wg.heap[bR]?=some (.cells #[.slice none 0 0,.slice none 0 0] 38 (0,0))from by rw[<-eg];exact heap_setCell_same _ _ 1 _ 38 _ nr1);have HFIN:=hid (show aj w wg from by
   rw[<-eg,<-ee];exact((HBC.o.trans (hbd.mono HBC.o.size)).setCell hRle _).setCell hRle _)
  have nd1:we.heap[w3.heap.size]?=wd.heap[w3.heap.size]?:=by rw[<-ee];exact heap_setCell_other _ _ _ _ (by show _≠bR;omega)
  have nd2:wg.heap[w3.heap.size]?=we.heap[w3.heap.size]?:=by rw[<-eg];exact heap_setCell_other _ _ _ _ (by show _≠bR;omega)
  have HH1:wg.cell? ⟨w3.heap.size,0,none⟩=some (.slice none 0 0)/\wg.cell? ⟨w3.heap.size,1,none⟩=some (.slice none 0 0):=⟨ak (nd2.trans (nd1.trans nd)) 0,ak (nd2.trans (nd1.trans nd)) 1⟩;have HER:=hid her;have her2:er=1\/er=4:=by rcases her with⟨h,_⟩ | ⟨h,_⟩<;>simp[h]
  clear nA nb nc h3c hlt hbd nd nr nr1 nd1 nd2 her;have z0:(er != 0)=true:=by rw[bne_iff_ne];omega
  have z1:(er == 0)=false:=by rw[beq_eq_false_iff_ne];omega
  clear her2;go_wp2_with fail;clear a0 g0 a1 g1 eA eb ec;refine aW 4 (fun w'=>w'.cell? ⟨w3.heap.size,0,none⟩=some (.slice none 0 0)/\w'.cell? ⟨w3.heap.size,1,none⟩=some (.slice none 0 0)) (by kernel_rfl) (by rw[ewd];exact HH0) (fun inv hHeld=>?_);rw[ewd];clear hHeld ewd;iterate 3
   refine aF (v:=?_) rfl (by kernel_rfl) (fun _ _ _ h=>h) (Or.inl ⟨by rfl,?_⟩) HH0 inv (fun inv=>?_)
   rotate_left
   ·intro w hSw;try dsimp only at hSw
    go_simp;try with_reducible rfl
   simp only[Act.put,bP,bQ,bK]
  refine eu (i:=3) rfl (by kernel_rfl) (by decide) inv (fun inv K' hK=>?_);go_simp;refine hK.out _ _ HH1 ?_;clear hK K' HH0;try simp only[Act.put,bP,bQ,bK]
  refine fQ (i:=4) rfl (by kernel_rfl) (fun K' hK=>?_);go_simp;refine hK.out _ _ (fun h=>absurd h (by decide)) ?_;clear hK K';try simp only[Act.put,bP,bQ,bK]
  refine aQ (by kernel_rfl) ?_ _;go_wp2_with fail;refine bodyPost_ret (v:=.tuple #[.slice none 0 0,.agg #[.slice none 0 0,.slice none 0 0],.int .i64 er]) (zx rfl _ _ bR _ _ _ er rfl rfl rfl HNB.o) rfl ?_;exact⟨HFIN.o,.inl ⟨er,HER.o,rfl⟩⟩
 have HVAL:=hid hval;have HOK:=hid hok;have HAV:=hid hav;have HCL:=hid (qL hval n (E0 G) (F0 G));have HKLEN:=hid (aO.lw hval n);have HND:=hid (show ∀ i,((bi G n (E0 G) (F0 G)).C i).Nodup from fun i=>aO.iQ.nodup (aO.eY G _).1);have hn1:n<=2000:=D8 hok;have hn0:0<n:=aJ.cZ.uk hok;have hkl:=hok.inv.2.2;have hnl:=(aO.iL G n).2;obtain⟨kv,nv,rfl,hkv,hnv⟩:=hav;obtain⟨ko,kc,rfl,hk63⟩:=hkv.len;obtain⟨no,nc,rfl,_⟩:=hnv.len;rw[hkl]at HAV hk63 ⊢;rw[hnl]at HAV ⊢;have HKL:=hid hkl;obtain⟨W,eW⟩:=ai (w3.alloc (.cells #[.slice ko n kc,.slice no n nc] 38));have nA:W.heap[w3.heap.size]?=some (.cells #[.slice ko n kc,.slice no n nc] 38 (0,0)):=dO eW;have h3c:aj w3 W:=dM eW;have HBW:=fJ HB3 h3c;have HNW:=hid ((h3c.block _ (dZ HN3.o)).trans HN3.o);have HRW:=hid ((h3c.block _ (dZ HR3.o)).trans HR3.o);have HAW:=hid nA;have HAVW:=hid (HAV.o.below h3c);have HKV:=hid (show eU (.slice ko n kc) n (fun i b off=>∃ u,W.cell? ⟨b,off+i,none⟩=some u/\aS W u ((ag G n).ker.getD i []))from by
  obtain⟨a,cap,e,h1,h2⟩:=hkv;rw[hkl]at e h1 h2;exact⟨a,cap,e,h1,fun h0=>by
   obtain⟨b,off,e2,h3⟩:=h2 h0;exact⟨b,off,e2,fun i hi=>by
    obtain⟨u,u1,u2⟩:=h3 i hi;exact⟨u,cell_below h3c u1,u2.below h3c⟩⟩⟩)
 have hRB:bR<W.heap.size:=(dZ HRW.o);have hAB:w3.heap.size<W.heap.size:=(dZ nA);obtain⟨bA,hbA⟩:=ai (w3.heap.size);have HAR:=hid (show bA≠bR from by
  have:=(dZ HR3.o);omega)
 rw[hbA]at HAW hAB;have HF0:Hid (az W.heap.size W W ([aA W.heap.size 2 (.slice none 0 0) 0 (rcells []),dY []]++(bI [] (bi G n (E0 G) (F0 G)).C (fun _=>0) 0++[]))):=hid (by
  have h0:=(az.empty W W.heap.size (bJ _)).add (aA W.heap.size 2 (.slice none 0 0) 0 []) (eH _ _) (aI.nil _ _ _) (fun b hb=>by
   have:b∈(Value.slice none 0 0).ownBlock.toList:=hb;simp[Value.ownBlock]at this)
  exact h0.add (dY []) (eH _ _) (fun q hq=>by cases hq) (fun c hc=>by cases hc))
 have HR0:=hid (show Ei (bi G n (E0 G) (F0 G)).C 0 [] [] []from⟨rfl,fun i hi=>absurd hi (Nat.not_lt_zero i)⟩);clear hval hok hkv hnv hkl hnl nA h3c HAV HB3 HN3 HR3;go_wp2_with fail;try rw[hbA]
 clear eW hbA
 go_loopw [7,8,9] (fun t7 t8 t9 wr=>∃ (i:Nat) (v:Value) (F:List (Nat×List It)) (GB:List Nat) (LL:List (Value×Value)),i<=n/\t8=.int .i64 (i:Int)/\v=t7/\GB.length=i/\Hid (az W.heap.size W wr ([aA W.heap.size 2 v i (rcells LL),dY F]++(bI GB (bi G n (E0 G) (F0 G)).C (fun _=>0) i++[])))/\Hid (Ei (bi G n (E0 G) (F0 G)).C i F GB LL)) (fun _ t8 _ _=>n-(RowKit.intOf t8).toNat)
 case atStart=>exact⟨0,_,[],[],[],Nat.zero_le _,rfl,rfl,rfl,HF0,HR0⟩
 case round =>
  clear HF0 HR0;obtain⟨i,v,F,GB,LL,hin,rfl,rfl,hgl,HF,HRR⟩:=hrel;have HGL:=hid hgl;clear hgl;have k0:ay wr bA 0 (.slice ko n kc):=ak ((HF.o.bel.block _ hAB).trans HAW.o) 0;by_cases hli:i<n
  ·have m1:(i:Int)<(n:Int):=by omega
   have m0:(0:Int)<=(i:Int):=by omega
   obtain⟨a,cap,e,_,hkx⟩:=HKV.o;injection e with e3 _ e4;subst e3;subst e4;obtain⟨kb,kf,rfl,hkx2⟩:=hkx hn0;obtain⟨u,u1,u2⟩:=hkx2 i hli;obtain⟨X,hX⟩:=ai ((ag G n).ker.getD i []);rw[hX]at u2;have hXl:X.length<=1573:=by
    refine HKLEN.o X ?_;rw[<-hX,dL,dH (by rw[HKL.o];exact hli)];exact List.getElem_mem _
   have HU2:=hid u2;have HU1:=hid u1;have HCX:=hid (show(bi G n (E0 G) (F0 G)).C i=fD G X from by rw[mJ HVAL.o,<-hX];rfl);obtain⟨wd,ewd⟩:=ai (wr.drew);have hbd:aj wr wd:=pW ewd;have HFd:=hid (HF.o.below hbd);have HS:=hid (show ∀ w',aj wd w'->ay w' w.heap.size 0 (tv)/\ay w' w.heap.size 1 (ov)/\ay w' w.heap.size 2 (sv)/\ay w' w.heap.size 3 (pv)/\ay w' w.heap.size 4 (.int .i64 G.start)/\ay w' bA 0 (.slice (some ⟨kb,kf,none⟩) n kc)/\ay w' kb (kf+i) u from fun w' hC=>by
    have hb:=(HFd.o.below hC).bel;have nG:=(hb.block _ (dZ HNW.o)).trans HNW.o;have nK:=(hb.block _ hAB).trans HAW.o;exact⟨ak nG 0,ak nG 1,ak nG 2,ak nG 3,ak nG 4,ak nK 0,cell_below hb HU1.o⟩)
   have HH0:=HS.o wd (eH _ _);clear u1 u2 hX hkx hkx2 hbd;go_wp2_with fail;clear k0;refine aW 7 (fun w'=>w'.cell? ⟨w.heap.size,0,none⟩=some (tv)/\w'.cell? ⟨w.heap.size,1,none⟩=some (ov)/\w'.cell? ⟨w.heap.size,2,none⟩=some (sv)/\w'.cell? ⟨w.heap.size,3,none⟩=some (pv)/\w'.cell? ⟨w.heap.size,4,none⟩=some (.int .i64 G.start)/\w'.cell? ⟨bA,0,none⟩=some (.slice (some ⟨kb,kf,none⟩) n kc)/\w'.cell? ⟨kb,kf+i,none⟩=some u) (by kernel_rfl) (by rw[ewd];exact HH0) (fun inv hHeld=>?_);rw[ewd];clear hHeld ewd;iterate 6
    refine aF (v:=?_) rfl (by kernel_rfl) (fun _ _ _ h=>h) (Or.inl ⟨by rfl,?_⟩) HH0 inv (fun inv=>?_)
    rotate_left
    ·intro w hSw;try dsimp only at hSw
     go_simp;try with_reducible rfl
    simp only[Act.put,bP,bQ,bK]
   refine eu (i:=6) rfl (by kernel_rfl) (by decide) inv (fun inv K' hK=>?_);go_simp;refine(yO (HGr.o.below (HBW.o.trans (HFd.o.bel.mono HBW.o.size))) (HU2.o.below HFd.o.bel) (by omega)).mono ?_;rintro e w5 ⟨cv,rfl,hcv,hb5⟩;have HCV:=hid hcv;obtain⟨co,cc,rfl⟩:=bF hcv;have HB5:=hid hb5;have HH1:=HS.o w5 hb5;refine hK.out _ _ HH1 ?_;clear hK K' HH0;try simp only[Act.put,bP,bQ,bK]
   refine fQ (i:=7) rfl (by kernel_rfl) (fun K' hK=>?_);go_simp;refine hK.out _ _ (fun h=>absurd h (by decide)) ?_;clear hK K';try simp only[Act.put,bP,bQ,bK]
   refine aQ (by kernel_rfl) ?_ _;clear HS HH1;have HFe:=hid (HFd.o.below HB5.o);obtain⟨N,hN⟩:=ai ((fD G X).length);have hNle:N<=1573:=by rw[<-hN];exact aO.kP G X
   have hN0:0<N:=by
    have:=c_ne (E:=E0 G) (F:=F0 G) HOK.o hli;rw[HCX.o]at this;rw[<-hN];exact List.length_pos_iff.2 this
   obtain⟨g,rfl⟩:∃ g,co=some ⟨g,0,none⟩:=by
    obtain⟨g,e,_⟩:=rC HCV.o (i:=0) (by rw[hN];exact hN0) rfl;exact⟨g,e⟩
   have hgl2:=iF HCV.o g rfl;have hrow:je w5 g ((bi G n (E0 G) (F0 G)).C i):=by
    rw[HCX.o];exact je.nZ HCV.o rfl
   have HFf:=hid (zQ (l:=[]) HFd.o (k:=1) rfl HB5.o hrow hgl2.1 hgl2.2);rw[hN];obtain⟨wm,ewm⟩:=ai (w5.alloc (.cells (aJ.sets (List.replicate N 0)) 69));have nm:wm.heap[w5.heap.size]?=some (.cells (aJ.sets (xA (bi G n (E0 G) (F0 G)).C (fun _=>0) i)) 69 (0,0)):=by
    rw[<-ewm,Jw,HCX.o,hN];exact aK _ _
   have hbm:aj w5 wm:=dM ewm;have HFm:=hid (IK (l1:=[aA W.heap.size 2 v i (rcells LL),dY (F++[(g,(bi G n (E0 G) (F0 G)).C i)])]) HFf.o HGL.o hbm nm);obtain⟨vo,vc,rfl⟩:=(show aI wm W.heap.size 2 v i (rcells LL)from HFm.o.ok 0 _ rfl).shape;obtain⟨wq,eq⟩:=ai (wm.alloc (.cells #[.slice (some ⟨g,0,none⟩) N cc,.slice (some ⟨w5.heap.size,0,none⟩) N N] 52));have nq:wq.heap[wm.heap.size]?=some (.cells #[.slice (some ⟨g,0,none⟩) N cc,.slice (some ⟨w5.heap.size,0,none⟩) N N] 52 (0,0)):=dO eq;have HFq:=hid (HFm.o.below (show aj wm wq by exact dM eq));have HCQ:=hid (show ∀ j u,[Value.slice (some ⟨g,0,none⟩) N cc,Value.slice (some ⟨w5.heap.size,0,none⟩) N N][j]?=some u->wq.cell? ⟨wm.heap.size,j,none⟩=some u from fun j u hj=>by
    rw[ak nq,<-hj,<-List.getElem?_toArray])
   have HBq:=hid (show W.heap.size<=wq.heap.size from eX HFq.o.le HFq.o.bel.size);have HOW:=hid (show aI wq W.heap.size 2 (.slice vo i vc) i (rcells LL)from HFq.o.ok 0 _ rfl);have HRN:=hid (by
    have:=HRR.o.push HGL.o g cc w5.heap.size;rw[HCX.o,hN]at this;rw[<-HCX.o]at this;exact this)
   have KM:=aJ.ve N (by omega) w5;rw[ewm]at KM;have hi12:i<=1000000000:=by omega
   have HI12:=hid hi12;clear nm hbm nq hrow hgl2 hN hi12;go_wp2_with (refine yR rfl (.tmp 35) (.tmp 41) 34 52 rfl (.agg #[.slice none 0 0,.slice none 0 0]) 2 48 Tryz.underlying34 info52 rfl (by decide) (.slice vo i vc) i (rcells LL) rfl HOW.o wm.heap.size rfl [.slice (some ⟨g,0,none⟩) N cc,.slice (some ⟨w5.heap.size,0,none⟩) N N] rfl HCQ.o (fun q hq=>by simp at hq;rcases hq with rfl | rfl<;>rfl) HI12.o HBq.o ?_);intro ao2 c8 w8 hown hg8 hat;have h8:=HFq.o.bU 0 rfl hown hg8 hat;have e9:rcells LL++[Value.slice (some ⟨g,0,none⟩) N cc,Value.slice (some ⟨w5.heap.size,0,none⟩) N N]=rcells (LL++[(Value.slice (some ⟨g,0,none⟩) N cc,Value.slice (some ⟨w5.heap.size,0,none⟩) N N)]):=by rw[CY]
   rw[e9]at h8;have HF8:Hid (az W.heap.size W w8 ([aA W.heap.size 2 (.slice ao2 (i+1) c8) (i+1) (rcells (LL++[(Value.slice (some ⟨g,0,none⟩) N cc,Value.slice (some ⟨w5.heap.size,0,none⟩) N N)])),dY (F++[(g,(bi G n (E0 G) (F0 G)).C i)])]++(bI (GB++[w5.heap.size]) (bi G n (E0 G) (F0 G)).C (fun _=>0) (i+1)++[]))):=hid h8;have HGL8:(GB++[w5.heap.size]).length=i+1:=by rw[List.length_append,HGL.o];rfl
   have HGL9:=hid HGL8;clear h8 hown hg8 hat e9 eq ewm KM HGL8;go_wp2_with fail;refine⟨⟨i+1,_,_,_,_,by omega,by go_num,rfl,HGL9.o,HF8,HRN⟩,?_⟩;simp[RowKit.intOf];omega
  ·have m1:¬ (i:Int)<(n:Int):=by omega
   obtain rfl:i=n:=by omega
   obtain⟨rb,rf,rc,rfl⟩:∃ rb rf rc,v=.slice (some ⟨rb,rf,none⟩) i rc:=by
    have hq:aI wr W.heap.size 2 v i (rcells LL):=HF.o.ok 0 _ rfl;obtain⟨hl,⟨e,h0⟩ | ⟨g3,off,cap,e,_⟩⟩:=hq
    ·omega
    ·exact⟨g3,off,cap,e⟩
   obtain⟨m,hm⟩:=List.mem_iff_getElem?.1 (aJ.cZ.jC (E:=E0 G) (F:=F0 G) HOK.o);obtain⟨g,c,t0,t1,hrow⟩:=uT (i:=0) (r0:=bI GB (bi G i (E0 G) (F0 G)).C (fun _=>0) i++[]) HF.o HRR.o hn0;obtain⟨N,hN⟩:=ai (((bi G i (E0 G) (F0 G)).C 0).length);have hNle:N<=1573:=by rw[<-hN];exact HCL.o 0
   have hml:m<N:=by rw[<-hN];exact(List.getElem?_eq_some_iff.1 hm).1
   obtain⟨gz,hgz⟩:=ai (GB.getD 0 0);have HGZ:=hid hgz;rw[hN]at t0 t1;rw[hgz]at t1;have t0:wr.cell? ⟨rb,rf,none⟩=some (.slice (some ⟨g,0,none⟩) N c):=by simpa using t0
   have t1:wr.cell? ⟨rb,rf+1,none⟩=some (.slice (some ⟨gz,0,none⟩) N N):=by simpa using t1
   have KF:=oN (v:=.slice (some ⟨g,0,none⟩) N c) ((-1:Int),(0:Int)) (by rw[<-hN];exact eQ hrow (by rw[hN];omega)) (by rw[hN];omega);rw[aJ.cZ.ni (HND.o 0) hm]at KF;unfold mg at KF;have KF:=hid KF;have HM:=hid hm;have HT1:=hid t1;clear hN hgz hrow hm t1;go_wp2_with fail;clear k0;refine KF.o.mono ?_;rintro e w6 ⟨rfl,hb6⟩;have HF6:=hid (HF.o.below hb6);obtain⟨wd,ewd⟩:=ai (w6.drew);have hbd:aj w6 wd:=pW ewd;have HFd:=hid (HF6.o.below hbd);have t1:=cell_below hbd (cell_below hb6 HT1.o);obtain⟨wl,ewl⟩:=ai (wd.alloc (.cells #[.int .i64 63] 3));have hbl:aj wd wl:=dM ewl;have HFl:=hid (HFd.o.below hbl);have KO:=hid (aJ.Hg 63 wl wd.heap.size (ak (show wl.heap[wd.heap.size]?=some (.cells #[.int .i64 63] 3 (0,0))by rw[<-ewl];exact aK _ _) 0));have HH0:ay wd rb (rf+1) (.slice (some ⟨gz,0,none⟩) N N):=t1;have HH1:ay wl rb (rf+1) (.slice (some ⟨gz,0,none⟩) N N):=cell_below hbl t1;have w0':(0:Int)<=(m:Int):=by omega
   have w1':(m:Int)<(N:Int):=by omega
   clear hb6 hbd hbl t0 t1 KF;go_wp2_with fail;refine aW 8 (fun w'=>w'.cell? ⟨rb,rf+1,none⟩=some (.slice (some ⟨gz,0,none⟩) N N)) (by kernel_rfl) (by rw[ewd];exact HH0) (fun inv hHeld=>?_);rw[ewd];clear hHeld ewd;iterate 5
    refine aF (v:=?_) rfl (by kernel_rfl) (fun _ _ _ h=>h) (Or.inl ⟨by rfl,?_⟩) HH0 inv (fun inv=>?_)
    rotate_left
    ·intro w hSw;try dsimp only at hSw
     go_simp;try with_reducible rfl
    simp only[Act.put,bP,bQ,bK]
   refine eu (i:=5) rfl (by kernel_rfl) (by decide) inv (fun inv K' hK=>?_);go_simp;refine hK.out _ _ HH1 ?_;clear hK K' HH0;try simp only[Act.put,bP,bQ,bK]
   refine eu (i:=6) rfl (by kernel_rfl) (by decide) inv (fun inv K' hK=>?_);go_simp;refine KO.o.mono ?_;rintro e w7 ⟨rfl,hb7⟩;have HF7:=hid (HFl.o.below hb7);have HH2:=cell_below hb7 HH1;refine hK.out _ _ HH2 ?_;clear hK K' HH1;try simp only[Act.put,bP,bQ,bK]
   iterate 1
    refine aF (v:=?_) rfl (by kernel_rfl) (fun _ _ _ h=>h) (Or.inl ⟨by rfl,?_⟩) HH2 inv (fun inv=>?_)
    rotate_left
    ·intro w hSw;try dsimp only at hSw
     go_simp;try with_reducible rfl
    simp only[Act.put,bP,bQ,bK]
   have hcz:=iD HF7.o hn0 HM.o;rw[HGZ.o]at hcz;obtain⟨hcz0,hcz1⟩:=hcz;have hcz0:ay w7 gz m (.int .u64 0):=hcz0;obtain⟨wS,eS⟩:=ai (w7.setCell ⟨gz,m,none⟩ (u64 (aZ 63)));have HFS:=hid (show az W.heap.size W wS ([aA W.heap.size 2 (.slice (some ⟨rb,rf,none⟩) i rc) i (rcells LL),dY F]++(bI GB (bi G i (E0 G) (F0 G)).C (iI (fun _=>0) (0,((-1:Int),(0:Int))) (aZ 63)) i++[]))from by
    have:=BB HF7.o (aZ 63) hn0 (HND.o 0) HM.o;rw[HGZ.o,Nat.zero_or,eS]at this;exact this)
   clear hb7;refine fQ (i:=8) rfl (by kernel_rfl) (fun K' hK=>?_);go_simp;refine hK.out _ _ (fun h=>absurd h (by decide)) ?_;clear hK K';try simp only[Act.put,bP,bQ,bK]
   refine aQ (by kernel_rfl) ?_ _;clear hcz0 hcz1 HH2 eS KO;have HBA:=hid (show nI (dJ (bi G i (E0 G) (F0 G))) (places (bi G i (E0 G) (F0 G)) i) (0,((-1:Int),(0:Int))) (aZ 63) (iI (fun _=>0) (0,((-1:Int),(0:Int))) (aZ 63)) []from
    ((aJ.cZ.WQ.init (dJ (bi G i (E0 G) (F0 G))) (places (bi G i (E0 G) (F0 G)) i) (0,((-1:Int),(0:Int))) (aZ 63) (places (bi G i (E0 G) (F0 G)) i) (fun q hq=>hq) (fun q hq=>hq)).qM (aJ.cZ.mem_places.2 ⟨hn0,aJ.cZ.jC HOK.o⟩) (by decide)).base.emp)
   have HS0:=hid (show fM (aZ 63) (iI (fun _=>0) (0,((-1:Int),(0:Int))) (aZ 63) (0,((-1:Int),(0:Int))))from by rw[aJ.cZ.kz];exact aJ.fU _ _);obtain⟨A1,hA1⟩:=ai (iI (fun _=>0) (0,((-1:Int),(0:Int))) (aZ 63));rw[hA1]at HBA HS0 HFS;obtain⟨R4,hR4⟩:∃ R4:Nat->Value->World->Prop,R4=fun k t wr=>∃ (A:Pl->Nat) (c:Bool),t=.bool c/\(az W.heap.size W wr ([aA W.heap.size 2 (.slice (some ⟨rb,rf,none⟩) i rc) i (rcells LL),dY F]++(bI GB (bi G i (E0 G) (F0 G)).C A i++[])))/\nI (dJ (bi G i (E0 G) (F0 G))) (places (bi G i (E0 G) (F0 G)) i) (0,((-1:Int),(0:Int))) (aZ 63) A []/\fM (aZ 63) (A (0,((-1:Int),(0:Int))))/\(c=false->dm (dJ (bi G i (E0 G) (F0 G))) (places (bi G i (E0 G) (F0 G)) i) (0,((-1:Int),(0:Int))) (aZ 63) A)/\jQ (places (bi G i (E0 G) (F0 G)) i) A+(if c=true then 1 else 0)=k:=⟨_,rfl⟩;have HR4:=hid hR4;clear hR4 hA1 HF HF6 HFd HFl HF7;go_wp2_with fail
   go_loopw [11] (fun t11 wr=>∃ k,R4 k t11 wr) (fun t11 wr=>minOf fun k=>R4 k t11 wr)
   case atStart=>exact⟨_,by rw[HR4.o];exact⟨A1,true,rfl,HFS.o,HBA.o,HS0.o,(fun h=>by cases h),rfl⟩⟩
   case round =>
    have hmin:=sG hrel;obtain⟨k,hk⟩:=ai ((minOf fun k=>R4 k u11 wr));rw[hk]at hmin;have HMK:=hid hk;clear hrel hk HFS HBA HS0;rw[HR4.o]at hmin;obtain⟨A,c,rfl,hf,hbase,hs,hl,hkk⟩:=hmin;have HF:=hid hf;have HBS:=hid hbase;have HSS:=hid hs;have HLL:=hid hl;have HKK:=hid hkk;have hbel:=hf.bel;have nG:=(hbel.block _ (dZ HNW.o)).trans HNW.o;have nK:=(hbel.block _ hAB).trans HAW.o;have nR:=(hbel.block _ hRB).trans HRW.o;have HNR:=hid nR;have HNK:=hid nK;have a0:ay wr bA 0 (.slice ko i kc):=ak nK 0;have a1:ay wr bA 1 (.slice no i nc):=ak nK 1;obtain⟨c0,c1,c2,c3,c4⟩:=cells5 nG;clear hf hbase hs hl hkk nG nK nR;cases c
    ·clear c0 c1 c2 c3 c4;obtain⟨wd,ewd⟩:=ai (wr.drew);have hbd:aj wr wd:=pW ewd;have HH0:wd.cell? ⟨bA,0,none⟩=some (.slice ko i kc)/\wd.cell? ⟨bA,1,none⟩=some (.slice no i nc):=⟨cell_below hbd a0,cell_below hbd a1⟩;have nr:=(hbd.block _ (dZ HNR.o)).trans HNR.o;have nk:=(hbd.block _ (dZ HNK.o)).trans HNK.o;have r0:ay wd bR 0 (.slice none 0 0):=ak nr 0;have f0:=bY nr 0;obtain⟨we,ee⟩:=ai (wd.setCell ⟨bR,0,none⟩ (.slice ko i kc));have nr1:we.heap[bR]?=some (.cells #[.slice ko i kc,.slice none 0 0] 38 (0,0)):=dK ee nr;have r1:ay we bR 1 (.slice none 0 0):=ak nr1 1;have f1:=bY nr1 1;obtain⟨wg,eg⟩:=ai (we.setCell ⟨bR,1,none⟩ (.slice no i nc));have HNB:=hid (show wg.heap[bR]?=some (.cells #[.slice ko i kc,.slice no i nc] 38 (0,0))from by rw[<-eg];exact heap_setCell_same _ _ 1 _ 38 _ nr1);have HFIN:=hid (show aj w wg from by
      rw[<-eg,<-ee];exact((HBW.o.trans ((hbel.trans (hbd.mono hbel.size)).mono HBW.o.size)).setCell hRle _).setCell hRle _)
     have hoth:∀ b,b≠bR->wg.heap[b]?=wd.heap[b]?:=fun b hb=>by
      rw[<-eg,heap_setCell_other _ _ _ _ (by show b≠bR;exact hb),<-ee,heap_setCell_other _ _ _ _ (by show b≠bR;exact hb)]
     have nk2:wg.heap[bA]?=some (.cells #[.slice ko i kc,.slice no i nc] 38 (0,0)):=(hoth bA HAR.o).trans nk;have HH1:wg.cell? ⟨bA,0,none⟩=some (.slice ko i kc)/\wg.cell? ⟨bA,1,none⟩=some (.slice no i nc):=⟨ak nk2 0,ak nk2 1⟩;have HLK:=hid (Dv HF.o HRR.o HCL.o hn1 (w':=wg) (fun b hb1 hb2=>by
      rw[hoth b (by omega)];exact hbd.block b hb2))
     have HAK:=hid (LP HAVW.o (fun q hq=>ker_pos HOK.o hq) (fun q hq=>nx_pos HVAL.o HOK.o hq) HRW.o (w':=wg) (fun b hb1 hb2=>by
      rw[hoth b hb1];exact((hbd.block b (by have:=hbel.size;omega)).trans (hbel.block b hb2))))
     clear hbd nr nk nr1 nk2 hoth hbel;go_wp2_with fail;clear a0 a1;refine aW 4 (fun w'=>w'.cell? ⟨bA,0,none⟩=some (.slice ko i kc)/\w'.cell? ⟨bA,1,none⟩=some (.slice no i nc)) (by kernel_rfl) (by rw[ewd];exact HH0) (fun inv hHeld=>?_);rw[ewd];clear hHeld ewd;iterate 3
      refine aF (v:=?_) rfl (by kernel_rfl) (fun _ _ _ h=>h) (Or.inl ⟨by rfl,?_⟩) HH0 inv (fun inv=>?_)
      rotate_left
      ·intro w hSw;try dsimp only at hSw
       go_simp;try with_reducible rfl
      simp only[Act.put,bP,bQ,bK]
     refine eu (i:=3) rfl (by kernel_rfl) (by decide) inv (fun inv K' hK=>?_);go_simp;refine hK.out _ _ HH1 ?_;clear hK K' HH0;try simp only[Act.put,bP,bQ,bK]
     refine fQ (i:=4) rfl (by kernel_rfl) (fun K' hK=>?_);go_simp;refine hK.out _ _ (fun h=>absurd h (by decide)) ?_;clear hK K';try simp only[Act.put,bP,bQ,bK]
     refine aQ (by kernel_rfl) ?_ _;go_wp2_with fail;refine bodyPost_ret (v:=.tuple #[.slice (some ⟨rb,rf,none⟩) i rc,.agg #[.slice ko i kc,.slice no i nc],.int .i64 0]) (zx rfl _ _ bR _ _ _ 0 rfl rfl rfl HNB.o) rfl ?_;exact⟨HFIN.o,.inr ⟨HVAL.o,i,HOK.o,_,_,_,_,_,_,_,A,rfl,HLL.o trivial,HLK.o,HAK.o⟩⟩
    ·have KR:=hid (Ib (HGr.o.below HBW.o) HAVW.o HVAL.o HOK.o (r0:=[]) (l2:=[]) HF.o HRR.o HBS.o);clear hbel;go_wp2_with fail;refine KR.o.mono ?_;rintro e w8 ⟨A',c',rfl,hx,hm,hf⟩;have HX:=hid hx;have HMM:=hid hm;have HF8:=hid hf;clear hx hm hf KR a0 a1 c0 c1 c2 c3 c4;have HRN:=hid (show R4 (jQ (places (bi G i (E0 G) (F0 G)) i) A'+(if c'=true then 1 else 0)) (.bool c') w8 from by
      rw[HR4.o];refine⟨A',c',rfl,HF8.o,HX.o.base,aJ.dG HSS.o (HX.o.up _),fun h=>?_,rfl⟩;subst h;exact aJ.cZ.Ko HX.o (HMM.o rfl) (aJ.dG HSS.o (HX.o.up _)))
     have HLT:=hid (show jQ (places (bi G i (E0 G) (F0 G)) i) A'+(if c'=true then 1 else 0)<k from by
      have h1:jQ (places (bi G i (E0 G) (F0 G)) i) A+1=k:=(by simpa using HKK.o);cases c'
      ·have:=HX.o.stay rfl;rw[this];simp;omega
      ·have:=HX.o.less rfl;simp;omega)
     go_wp2_with fail;refine⟨⟨_,HRN.o⟩,?_⟩;show(minOf fun k=>R4 k (.bool c') w8)<minOf fun k=>R4 k (.bool true) wr;rw[HMK.o];exact Nat.lt_of_le_of_lt (oI HRN.o) HLT.o
end Go.Proofs.YticmnfmijdgmbaaGreatDoor
