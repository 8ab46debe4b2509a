import Derived.Deep.DeepCutAuto
import Derived.Laws.NewBlocks
import Derived.Test.YticmnfmijdgmbaaGreatDoorQHw
import Derived.Test.YticmnfmijdgmbaaGreatDoorXc
set_option linter.all false
set_option maxRecDepth 100000
set_option maxHeartbeats 2000000
namespace Go.Proofs.YticmnfmijdgmbaaGreatDoor.aJ
open Go Go.RowKit Go.Lib Go.Joins
theorem info30:(Tryz.prog.info? 69).map (fun i=>(i.zero,i.size,i.bytes))=some (some (.int .u64 0),1,8):=by kernel_rfl
theorem ve (n:Nat)(hn:n<=1000000)(w:World):(Instr.makeSlice 46 (.int .i64 (n:Int)) (.int .i64 (n:Int))).run Tryz.prog w=.ok (.slice (some ⟨w.heap.size,0,none⟩) n n) (w.alloc (.cells (sets (List.replicate n 0)) 69)):=by
 obtain⟨i0,hi,hz0,hz1,hz2⟩:=info_parts info30;have:=run_makeSlice (P:=Tryz.prog) (w:=w) 46 69 i0 (.int .u64 0) Tryz.underlying46 hi hz0 .i64 .i64 (n:Int) (n:Int) (by omega) (by omega) (by rw[hz1];omega) (by rw[hz2];omega) (by omega);rw[this,hz1];have e:madeCells (Value.int .u64 0).cells ((n:Int).toNat*1)=sets (List.replicate n 0):=by
  rw[Int.toNat_natCast,Nat.mul_one];refine Array.ext (by simp[madeCells]) fun i h1 h2=>?_;simp[madeCells,Value.cells,Nat.mod_one]
 rw[e,Int.toNat_natCast]
theorem jm {w:World}{k:Nat}{o o':Obj}(h:w.heap[k]?=some o):(w.alloc o').heap[k]?=some o:=dh ((eH _ _).alloc (bJ _) _) h
theorem heap_set {w:World}{k:Nat}{o:Obj}{p:Addr}{v:Value}(h:w.heap[k]?=some o)(hne:k≠p.block):(w.setCell p v).heap[k]?=some o:=(Below.heap_setCell w p v k hne).trans h
theorem o8 (w:World)(o o':Obj):((w.alloc o).alloc o').heap[w.heap.size+1]?=some o':=by
 have:=aK (w.alloc o) o'
 rwa [World.size_alloc]at this
theorem vF {w:World}{b:Nat}{t:TypeId}{x0 y0 z0 x y z:Value}(h:w.heap[b]?=some (.cells #[x0,y0,z0] t)) :
  (((w.setCell ⟨b,0,none⟩ x).setCell ⟨b,1,none⟩ y).setCell ⟨b,2,none⟩ z).heap[b]?=some (.cells #[x,y,z] t):=by
 have h1:=block_setCell (i:=0) h x;have h2:=block_setCell (i:=1) h1 y;have h3:=block_setCell (i:=2) h2 z;rw[h3];simp
theorem kH {w:World}{b k:Nat}{o:Obj}{x y z:Value}(h:w.heap[k]?=some o)(hne:k≠b) :
  (((w.setCell ⟨b,0,none⟩ x).setCell ⟨b,1,none⟩ y).setCell ⟨b,2,none⟩ z).heap[k]?=some o:=heap_set (heap_set (heap_set h hne) hne) hne
theorem JZ (w:World){b:Nat}{o:Obj}{x y z:Value} :
  ((((w.setCell ⟨b,0,none⟩ x).setCell ⟨b,1,none⟩ y).setCell ⟨b,2,none⟩ z).alloc o).heap[w.heap.size]?=some o:=by
 have:=aK (((w.setCell ⟨b,0,none⟩ x).setCell ⟨b,1,none⟩ y).setCell ⟨b,2,none⟩ z) o;simpa using this
theorem bcell {W w1:World}(hb:Below W.heap.size W w1):(∀ b o,b<W.heap.size->w1.cell? ⟨b,o,none⟩=W.cell? ⟨b,o,none⟩)/\(∀ b o,b<W.heap.size->w1.frozen? ⟨b,o,none⟩=W.frozen? ⟨b,o,none⟩):=
 ⟨fun b o h=>hb.cell (p:=⟨b,o,none⟩) h,fun b o h=>hb.frozen (p:=⟨b,o,none⟩) h⟩
theorem iy {w0 w:World}(h:Below w0.heap.size w0 w)(o:Obj):Below w0.heap.size w0 (w.alloc o):=h.alloc h.size o
theorem Dt {G:GD}{gv tv ov sv pv:Value}{tf:Nat->Nat->Value}{rv:Nat->Value}{w:World}(h:nJ w gv G tv ov sv pv tf rv)(hV:aB G=true) :
  Calls Tryz.prog 67 #[gv] w fun e W' =>
   ∃ eb fb E F,e=.returned (Gl G.terms.length eb fb G.sorts.length)/\Least false G.prods G.sorts.length E/\fV (qJ G.terms.length E G.prods) G.sorts.length F /\
    W'.heap[eb]?=some (.cells (E.map Value.bool).toArray 4)/\W'.heap[fb]?=some (.cells (sets F) 69)/\w.heap.size<=eb/\w.heap.size<=fb/\Below w.heap.size w W':=by
 have hs:=h.sorts;have ht:=h.terms;have hgv:=h.eq;subst hgv;obtain⟨sa,sc,rfl,hsn,_⟩:=hs;obtain⟨ta,tc,rfl,htn,_⟩:=ht;obtain⟨n60,s60,p120⟩:=gm hV;obtain⟨w0,hw0⟩:∃ w0,w0=(w.alloc (.cells #[.slice ta G.terms.length tc,ov,.slice sa G.sorts.length sc,pv,.int .i64 G.start] 27)).alloc (.cells #[.int .i64 0,.slice none 0 0,.slice none 0 0] 130):=⟨_,rfl⟩;have hB0:Below w.heap.size w w0:=by rw[hw0];exact((eH _ _).alloc (bJ _) _).alloc (by simp) _
 have b1:w0.heap[w.heap.size]?=some (.cells #[.slice ta G.terms.length tc,ov,.slice sa G.sorts.length sc,pv,.int .i64 G.start] 27):=by
  rw[hw0];exact(Below.heap_alloc _ _ _ (by simp)).trans (aK w _)
 have b2:w0.heap[w.heap.size+1]?=some (.cells #[.int .i64 0,.slice none 0 0,.slice none 0 0] 130):=by
  rw[hw0];have:=aK (w.alloc (.cells #[.slice ta G.terms.length tc,ov,.slice sa G.sorts.length sc,pv,.int .i64 G.start] 27)) (.cells #[.int .i64 0,.slice none 0 0,.slice none 0 0] 130)
  rwa [World.size_alloc]at this
 have hG:=h.mono hB0;have q0:=cell_of_block b1 0;have q1:=cell_of_block b1 1;have q2:=cell_of_block b1 2;have q3:=cell_of_block b1 3;have q4:=cell_of_block b1 4;have s0:w0.heap.size=w.heap.size+2:=by rw[hw0];simp
 simp only[List.getElem?_toArray,List.getElem?_cons_zero,List.getElem?_cons_succ]at q0 q1 q2 q3 q4;have kE:Hid (∀ W',Below w0.heap.size w0 W'->Calls Tryz.prog 43 #[.agg #[.slice ta G.terms.length tc,ov,.slice sa G.sorts.length sc,pv,.int .i64 G.start]] W' fun e W'' =>
   ∃ lb L,e=.returned (.slice (some ⟨lb,0,none⟩) G.sorts.length G.sorts.length)/\Least false G.prods G.sorts.length L/\W''.heap[lb]?=some (.cells (L.map Value.bool).toArray 4)/\W'.heap.size<=lb/\Below W'.heap.size W' W''/\Below w0.heap.size w0 W''):=
  fun W' hb=>(Jg (hG.mono hb) hV).mono fun e W'' ⟨lb,L,h1,h2,h3,h4,h5⟩=>⟨lb,L,h1,h2,h3,h4,h5,hb.trans (h5.mono hb.size)⟩
 have km:=ve G.sorts.length (by omega);have i0:(0:Int)<=(G.sorts.length:Int):=by omega
 have HB2:=hid b2;have HB1:=hid b1;have S0:=hid s0;clear b2 s0 b1;generalize hns:G.sorts.length=ns at *;generalize hnt:G.terms.length=nt at *;generalize hst:G.start=st at *;go_enter Tryz.func67,Tryz.ntmps67
 go_upto_region 1 with fail
 rw[<-hw0];clear hw0;generalize hBg:w.heap.size=Bg at *
 go_cut [3] (fun s3 wx=>∃ Br eb lb E,s3=.pointer (some ⟨Br,0,none⟩)/\wx.heap[Br]?=some (.cells #[.int .i64 (nt:Int),.slice (some ⟨eb,0,none⟩) ns ns,.slice (some ⟨lb,0,none⟩) ns ns] 130) /\
  Least false G.prods ns E/\wx.heap[eb]?=some (.cells (E.map Value.bool).toArray 4)/\wx.heap[lb]?=some (.cells (sets (List.replicate ns 0)) 69)/\eb≠lb/\w0.heap.size<=eb/\w0.heap.size<=lb/\w0.heap.size<=Br/\Below w0.heap.size w0 wx)
 case first =>
  go_region_held3 (fun w'=>w'.cell? ⟨Bg,0,none⟩=some (.slice ta nt tc)/\w'.cell? ⟨Bg,1,none⟩=some ov/\w'.cell? ⟨Bg,2,none⟩=some (.slice sa ns sc)/\w'.cell? ⟨Bg,3,none⟩=some pv/\w'.cell? ⟨Bg,4,none⟩=some (.int .i64 st))
   ((go_split_ands;first | (refine⟨cell_below ?_ q0,cell_below ?_ q1,cell_below ?_ q2,cell_below ?_ q3,cell_below ?_ q4⟩<;>(repeat' (first | assumption | exact eH _ _ | refine Below.drew ?_ | refine iy ?_ _ | refine Below.setCell ?_ ?_ _ | (dsimp only;omega) | (simp;omega)));done) | (trace_state;done)))
   ((go_at_call 43;refine(kE.o _ (by(repeat' (first | assumption | exact eH _ _ | refine Below.drew ?_ | refine iy ?_ _ | refine Below.setCell ?_ ?_ _ | (dsimp only;omega) | (simp;omega))))).mono ?_;rintro e w5 ⟨eb,E,rfl,hE1,hE2,hE3,hE4,hE5⟩;obtain⟨hc5,hf5⟩:=bcell hE4;have hz5:=hE4.size;simp at hz5;try(have hz6:w0.heap.size<w5.heap.size:=by omega);try(have hz7:w0.heap.size+1<w5.heap.size:=by omega)))
  ·have hl5:=(dZ hE2);simp at hE3;go_wp2_with fail
   go_meet
   refine⟨_,eb,w5.heap.size,E,rfl,?_,hE1,?_,?_,?_,?_,?_,?_,?_⟩
   ·exact o8 _ _ _
   ·exact jm (jm hE2)
   ·exact jm (aK _ _)
   ·omega
   ·omega
   ·omega
   ·omega
   ·exact iy (iy hE5 _) _
  ·have hl5:=(dZ hE2);simp at hE3;go_wp2_with fail
   go_meet
   refine⟨_,eb,(w5.heap.size+1),E,rfl,?_,hE1,?_,?_,?_,?_,?_,?_,?_⟩
   ·exact jm (aK _ _)
   ·exact jm (jm hE2)
   ·exact o8 _ _ _
   ·omega
   ·omega
   ·omega
   ·omega
   ·exact iy (iy hE5 _) _
  ·have hl5:=(dZ hE2);simp at hE3;have hS:w5.heap[w0.heap.size]?=some (.cells (sets (List.replicate ns 0)) 69):=(hE4.block w0.heap.size (by simp)).trans (aK w0 _);go_wp2_with fail
   go_meet
   refine⟨_,eb,w0.heap.size,E,rfl,?_,hE1,?_,?_,?_,?_,?_,?_,?_⟩
   ·exact aK _ _
   ·exact jm hE2
   ·exact jm hS
   ·omega
   ·omega
   ·omega
   ·omega
   ·exact iy hE5 _
  ·have hl5:=(dZ hE2);simp at hE3;have hS:w5.heap[w0.heap.size]?=some (.cells (sets (List.replicate ns 0)) 69):=(hE4.block w0.heap.size (by simp;omega)).trans (jm (aK w0 _));have hR:w5.heap[w0.heap.size+1]?=some (.cells #[.int .i64 0,.slice none 0 0,.slice none 0 0] 130):=(hE4.block (w0.heap.size+1) (by simp)).trans (o8 w0 _ _);go_wp2_with fail
   go_meet
   refine⟨_,eb,w0.heap.size,E,rfl,?_,hE1,?_,?_,?_,?_,?_,?_,?_⟩
   ·exact vF hR
   ·exact kH hE2 (by omega)
   ·exact kH hS (by omega)
   ·omega
   ·omega
   ·omega
   ·omega
   ·exact((hE5.setCell (by dsimp only;omega) _).setCell (by dsimp only;omega) _).setCell (by dsimp only;omega) _
  ·have hl5:=(dZ hE2);simp at hE3;have hR:w5.heap[w0.heap.size]?=some (.cells #[.int .i64 0,.slice none 0 0,.slice none 0 0] 130):=(hE4.block w0.heap.size (by simp)).trans (aK w0 _);go_wp2_with fail
   go_meet
   refine⟨_,eb,w5.heap.size,E,rfl,?_,hE1,?_,?_,?_,?_,?_,?_,?_⟩
   ·exact jm (vF hR)
   ·exact jm (kH hE2 (by omega))
   ·exact JZ _
   ·omega
   ·omega
   ·omega
   ·omega
   ·exact iy (((hE5.setCell (by dsimp only;omega) _).setCell (by dsimp only;omega) _).setCell (by dsimp only;omega) _) _
  ·have hl5:=(dZ hE2);simp at hE3;have hS:w5.heap[w0.heap.size+1]?=some (.cells (sets (List.replicate ns 0)) 69):=(hE4.block (w0.heap.size+1) (by simp)).trans (o8 w0 _ _);have hR:w5.heap[w0.heap.size]?=some (.cells #[.int .i64 0,.slice none 0 0,.slice none 0 0] 130):=(hE4.block w0.heap.size (by simp;omega)).trans (jm (aK w0 _));go_wp2_with fail
   go_meet
   refine⟨_,eb,(w0.heap.size+1),E,rfl,?_,hE1,?_,?_,?_,?_,?_,?_,?_⟩
   ·exact vF hR
   ·exact kH hE2 (by omega)
   ·exact kH hS (by omega)
   ·omega
   ·omega
   ·omega
   ·omega
   ·exact((hE5.setCell (by dsimp only;omega) _).setCell (by dsimp only;omega) _).setCell (by dsimp only;omega) _
 case rest =>
  obtain⟨Br,eb,lb,E,rfl,hBr,hE,heb,hlb,hne,g1,g2,g3,hb⟩:=hcut;rename_i wc;have hBl:¬ (Br=lb):=by
   rintro rfl;rw[hBr]at hlb;simp at hlb
  have hel:=(dZ heb);have KG:=hid (growS (W:=wc) (lb:=lb) (n:=ns) (tf:=112) (caps:=#[.pointer (some ⟨Bg,0,none⟩),.pointer (some ⟨Br,0,none⟩)]) (evs:=qJ nt E G.prods) (fun _ _=>rfl) hlb
   (hid fun W' Bl Bj Bc L hF hS hLt hBc=>by
    have:=passF (lb:=lb) (Bc:=Bc) (Bl:=Bl) (Bj:=Bj) (Bg:=Bg) (Br:=Br) (w0:=w0) (E:=E) (eb:=eb) hG hV q3 (hF.heap heb hne) (by rintro(h | h)<;>omega) (by rw[hE.length,hns]) (hb.trans (hF.kW hb.size (by rintro k rfl;exact g2))) (by rw[hns,hnt];exact hF.heap hBr hBl) (by rw[hns];exact hS) hLt g2 (by have:=hb.size;omega);rw[hns,hnt]at this;simpa using this))
  clear kE km;have x0:=cell_of_block hBr 2;simp only[List.getElem?_toArray,List.getElem?_cons_zero,List.getElem?_cons_succ]at x0;go_wp2_with fail;refine KG.o.mono ?_;rintro e w6 ⟨rfl,F,hF1,hF2,hF3⟩;have d1:=hF3.heap hBr hBl;have d2:=hF3.heap (dh hb HB2.o) (by have:=S0.o;omega);have r0:=cell_of_block d1 0;have r1:=cell_of_block d1 1;have r2:=cell_of_block d1 2;have t0:=cell_of_block d2 0;have t1:=cell_of_block d2 1;have t2:=cell_of_block d2 2;simp only[List.getElem?_toArray,List.getElem?_cons_zero,List.getElem?_cons_succ]at r0 r1 r2 t0 t1 t2;have f0:=unfrozen_of_block d2 0;have f1:=unfrozen_of_block d2 1;have f2:=unfrozen_of_block d2 2;have e1:=hF3.heap heb hne;have e2:=hF3.kW hb.size (by rintro k rfl;exact g2);have hs0:=S0.o;have ne1:eb≠Bg+1:=by omega
  have ne2:lb≠Bg+1:=by omega
  have HE1:=hid (kH (b:=Bg+1) (x:=.int .i64 (nt:Int)) (y:=.slice (some ⟨eb,0,none⟩) ns ns) (z:=.slice (some ⟨lb,0,none⟩) ns ns) e1 ne1);have HE2:=hid (kH (b:=Bg+1) (x:=.int .i64 (nt:Int)) (y:=.slice (some ⟨eb,0,none⟩) ns ns) (z:=.slice (some ⟨lb,0,none⟩) ns ns) hF2 ne2);have S0':=hid hs0;have hB6:Below Bg w w6:=hB0.trans ((hb.trans e2).mono (by omega));clear hs0 d1 d2 e1 e2;go_wp2_with fail;exact bodyPost_ret (v:=Gl nt eb lb ns) (by simp[results,Tryz.results67,go_sem,t0,t1,t2]) rfl ⟨eb,lb,E,F,rfl,hE,hF1,HE1.o,HE2.o,by have:=S0'.o;omega,by have:=S0'.o;omega,by
   rw[hBg];exact Below.setCell (p:=⟨Bg+1,2,none⟩) (Below.setCell (p:=⟨Bg+1,1,none⟩) (Below.setCell (p:=⟨Bg+1,0,none⟩) hB6 (Nat.le_succ _) _) (Nat.le_succ _) _) (Nat.le_succ _) _⟩
theorem MP {G:GD}{gv tv ov sv pv:Value}{tf:Nat->Nat->Value}{rv:Nat->Value}{w:World}(h:nJ w gv G tv ov sv pv tf rv)(hV:aB G=true){l:List Int}{lv:Value}{b:Nat}(hl:dw w lv l)(hb0:b<top) :
  Calls Tryz.prog 29 #[gv,lv,u64 b] w fun e W' =>
   ∃ E F,e=.returned (u64 (ofRow G.terms.length E F l b))/\Least false G.prods G.sorts.length E/\fV (qJ G.terms.length E G.prods) G.sorts.length F/\Below w.heap.size w W':=by
 obtain⟨W1,B,hW1,hB,c0,c1,c2,c3,c4,hG,hb,hsz⟩:=gU h;subst hB;have kv:=mO hG;rw[hV]at kv;have kn:=hid fun(W':World) (hb:Below W1.heap.size W1 W')=>Dt (hG.mono hb) hV;have HL:=hid (hl.mono hb);clear hl;have hgv:=h.eq;subst hgv;obtain⟨la,lc,rfl,hln,hlc⟩:=HL.o.1;clear hlc;generalize hll:l.length=ll at *;go_enter Tryz.func29,Tryz.ntmps29;go_wp2_with fail;rw[<-hW1];clear hW1;refine kv.mono ?_;rintro e w1 ⟨rfl,hB1⟩;have d0:=cell_below hB1 c0;have d1:=cell_below hB1 c1;have d2:=cell_below hB1 c2;have d3:=cell_below hB1 c3;have d4:=cell_below hB1 c4;go_wp2_with fail;refine(kn.o _ hB1).mono ?_;rintro e w2 ⟨eb,fb,E,F,rfl,h1,h2,h3,h4,h5,h6,h7⟩;have ko:=hid (JS (nt:=G.terms.length) (b:=b) h3 h4 h1.length h2.length h2.2.2 hb0 (HL.o.mono (hB1.trans (h7.mono hB1.size))));go_wp2_with fail;refine ko.o.mono ?_;rintro e w3 ⟨rfl,hB3⟩;go_wp2_with fail;go_ret;exact⟨E,F,rfl,h1,h2,hb.trans ((hB1.mono hsz).trans ((h7.mono (by have:=hB1.size;omega)).trans (hB3.mono (by have:=hB1.size;have:=h7.size;omega))))⟩
def cutV (b off n c k:Nat):Value:=.slice (if c=k then some ⟨b,off,none⟩else some ⟨b,off+k,none⟩) (n-k) (c-k)
theorem AQ (b off n c q:Nat)(hq:q+1<=n)(w:World):(Instr.slice 64 (.slice (some ⟨b,off,none⟩) n c) (some (.int .i64 ((q:Int)+1))) none none).run Tryz.prog w=.ok (cutV b off n c (q+1)) w:=by
 rw[run_slice_l w 64 (some ⟨b,off,none⟩) n c (by kernel_rfl) .i64 _ (by omega) (by omega)];have e1:(sizeOf (Tryz.prog.elem 64)).run Tryz.prog w=.ok 1 w:=by kernel_rfl
 rw[e1];simp only[Result.andThen,sliced];rw[show((q:Int)+1).toNat=q+1 by omega];unfold cutV;by_cases h:c=q+1<;>simp[h,Addr.add]
theorem Fg {w:World}{b off n c:Nat}{l:List Int}(h:∀ i,i<l.length->w.cell? ⟨b,off+i,none⟩=some (.int .i64 (l.getD i 0)))(hl:l.length=n)(hr:∀ x∈l,-9223372036854775808<=x/\x<=9223372036854775807)(hn:n<=9223372036854775807)(hc:n<=c)(k:Nat) :
  dw w (cutV b off n c k) (l.drop k):=by
 refine⟨⟨_,_,by unfold cutV;rw[List.length_drop,hl],by rw[List.length_drop];omega,fun h0=>?_⟩,fun x hx=>hr x (List.mem_of_mem_drop hx)⟩;rw[List.length_drop,hl]at h0;refine⟨b,off+k,by rw[if_neg (by omega)],fun i hi=>?_⟩;rw[List.length_drop]at hi;have:=h (k+i) (by omega);rw[Nat.add_assoc,this];simp[dL,List.getElem?_drop]
theorem of63 (w:World)(b:Nat)(h:w.cell? ⟨b,0,none⟩=some (.int .i64 63)):Calls Tryz.prog 31 #[.slice (some ⟨b,0,none⟩) 1 1] w fun e w'=>e=.returned (u64 (aZ 63))/\w=w':=by
 have:=Of_some b 0 1 [63] w (by decide) (fun i hi=>by
  match i,hi with
  | 0,_=>simpa using h)
 rw[show BQ [63]=aZ 63 from by decide]at this;exact this
def Hm (n:Nat)(evs:List Ev):Prop:=∀ e∈evs,∀ a b:List Nat,a.length=n->b.length=n->Jf a b->fM (e.2 a) (e.2 b)
theorem yV {evs:List Ev}{n:Nat}{a b M:List Nat}(h:ji evs a b)(hl:a.length=n)(hlM:M.length=n)(ha:Jf a M)(hm:Hm n evs)(hM:lY evs M):Jf b M:=by
 induction h with
 | refl=>exact ha
 | step hr hp ih =>
  rename_i L e;intro i;unfold stepS;rw[dL,List.getElem?_set];split
  ·rename_i e';subst e';split
   ·exact uY (ih _) (dG (hm _ hp _ _ (by rw[nY hr,hl]) hlM ih) (hM _ hp))
   ·exact qg _
  ·rw[<-dL];exact ih i
theorem fV.leN {evs:List Ev}{n:Nat}{L M:List Nat}(h:fV evs n L)(hm:Hm n evs)(hl:M.length=n)(hM:lY evs M):Jf L M:=
 yV h.1 (by simp) hl (Dp n M) hm hM
theorem ext_leS {a b:List Nat}(hl:a.length=b.length)(h1:Jf a b)(h2:Jf b a):a=b:=by
 refine List.ext_getElem hl fun i x y=>?_;have e:=jk (h1 i) (h2 i);rw[dL,dL,dH x,dH y]at e;exact e
theorem fV.JD {evs:List Ev}{n:Nat}{L M:List Nat}(h:fV evs n L)(h2:fV evs n M)(hm:Hm n evs):L=M:=
 ext_leS (by rw[h.length,h2.length]) (h.leN hm h2.length h2.2.1) (h2.leN hm h.length h.2.1)
theorem ut (nt:Nat)(E:List Bool)(ps:List PD)(n:Nat):Hm n (qJ nt E ps):=by
 intro e he a b ha hb hab;obtain⟨p,_,rfl⟩:=List.mem_map.1 he;exact su nt E hab (by rw[ha,hb]) p.rs (gB 0)
theorem Kq (a:List Nat):Jf a a:=fun _=>gB _
def nU (nt ns:Nat)(l:List Int):Prop:=∀ s∈l,(0<=s/\s<nt)\/(s<0/\-1-s<ns)
theorem gy {G:GD}(hV:aB G=true):∀ p∈G.prods,0<=p.sort/\p.sort<G.sorts.length/\nU G.terms.length G.sorts.length p.rs:=by
 intro p hp;obtain⟨k,hk,rfl⟩:=List.getElem_of_mem hp;have:=jy (mP hV hk);rw[dL,dH hk]at this;exact⟨this.1,this.2.1,this.2.2.2⟩
open aO (It)
theorem Ba {k:Bool}{ps:List PD}{n:Nat}(hs:∀ p∈ps,p.sort.toNat<n):∃ L,Least k ps n L:=by
 have key:∀ (c:Nat) (L:List Bool),L.count false<=c->Reach k ps (List.replicate n false) L->L.length=n->∃ L',Least k ps n L':=by
  intro c;induction c with
  | zero =>
   intro L hc hr hl;refine⟨L,hr,fun p hp ha=>?_⟩;rcases oO k L p (by rw[hl];exact hs p hp)with⟨_,_,h⟩ | ⟨_,h⟩
   ·exact h ha
   ·omega
  | succ c ih =>
   intro L hc hr hl;by_cases hcl:Closed k ps L
   ·exact⟨L,hr,hcl⟩
   ·obtain⟨p,hp⟩:=Classical.not_forall.1 hcl;obtain⟨hp1,hp2⟩:=Classical.not_imp.1 hp;obtain⟨hp3,hp4⟩:=Classical.not_imp.1 hp2;rcases oO k L p (by rw[hl];exact hs p hp1)with⟨_,_,h⟩ | ⟨_,h⟩
    ·exact absurd (h hp3) hp4
    ·exact ih _ (by omega) (.step hr hp1) (by rw[lQ];exact hl)
 exact key _ _ (bJ _) .refl (by simp)
theorem y8 {evs:List Ev}{n:Nat}(h1:∀ e∈evs,e.1<n)(h2:∀ e∈evs,SetEv e):∃ L,fV evs n L:=by
 have key:∀ (c:Nat) (L:List Nat),room L<=c->ji evs (List.replicate n 0) L->L.length=n->(∀ x∈L,x<top)->∃ L',fV evs n L':=by
  intro c;induction c with
  | zero =>
   intro L hc hr hl ht;refine⟨L,hr,fun e he=>?_,ht⟩;rcases qw L e (by rw[hl];exact h1 e he) ht (h2 e he L ht)with⟨_,_,h⟩ | ⟨_,h⟩
   ·exact h
   ·omega
  | succ c ih =>
   intro L hc hr hl ht;by_cases hcl:lY evs L
   ·exact⟨L,hr,hcl,ht⟩
   ·obtain⟨e,he⟩:=Classical.not_forall.1 hcl;obtain⟨he1,he2⟩:=Classical.not_imp.1 he;rcases qw L e (by rw[hl];exact h1 e he1) ht (h2 e he1 L ht)with⟨_,_,h⟩ | ⟨_,h⟩
    ·exact absurd h he2
    ·exact ih _ (by omega) (.step hr he1) (by rw[lN];exact hl) (Ey ht _ (oH (getD_lt ht _) (h2 e he1 L ht)))
 exact key _ _ (bJ _) .refl (by simp) (fun x hx=>by rw[List.eq_of_mem_replicate hx];decide)
noncomputable def E0 (G:GD):List Bool:=Classical.epsilon (Least false G.prods G.sorts.length)
noncomputable def F0 (G:GD):List Nat:=Classical.epsilon (fV (qJ G.terms.length (E0 G) G.prods) G.sorts.length)
theorem nD {G:GD}(hV:aB G=true):Least false G.prods G.sorts.length (E0 G):=
 Classical.epsilon_spec (Ba fun p hp=>by have:=gy hV p hp;omega)
theorem fC {G:GD}(hV:aB G=true):fV (qJ G.terms.length (E0 G) G.prods) G.sorts.length (F0 G):=
 Classical.epsilon_spec (y8 (fun e he=>by
  obtain⟨p,hp,rfl⟩:=List.mem_map.1 he;have:=gy hV p hp;show p.sort.toNat<_;omega) (fun e he=>by
  obtain⟨p,hp,rfl⟩:=List.mem_map.1 he;exact fun L hL=>iJ _ _ hL _ (by decide)))
theorem uq {G:GD}(hV:aB G=true):cZ.NoEnd (F0 G):=by
 have hn:=(bn hV).1;have hM:∀ x∈List.replicate G.sorts.length (2 ^ 63-1),x=2 ^ 63-1:=fun x hx=>List.eq_of_mem_replicate hx;have hle:=(fC hV).leN (ut _ _ _ _) (M:=List.replicate G.sorts.length (2 ^ 63-1)) (by simp) (fun e he=>by
  obtain⟨p,hp,rfl⟩:=List.mem_map.1 he;have hr:=gy hV p hp;have hg:(List.replicate G.sorts.length (2 ^ 63-1)).getD p.sort.toNat 0=2 ^ 63-1:=by
   rw[dL,List.getElem?_replicate,if_pos (by omega)];rfl
  show fM (ofRow _ _ _ p.rs 0) ((List.replicate G.sorts.length (2 ^ 63-1)).getD p.sort.toNat 0);rw[hg];refine eG.2 fun i hi=>?_;have h64:i<64:=by
   rcases Nat.lt_or_ge i 64 with h | h
   ·exact h
   ·rw[kC (iJ _ _ (fun x hx=>by rw[hM x hx];decide) _ (by decide)) h]at hi;cases hi
  have h63:i≠63:=fun e=>by
   subst e;rw[cZ.nS (fun x hx=>by rw[hM x hx];decide) hn]at hi;cases hi
  rw[Nat.testBit_two_pow_sub_one];exact eP (by omega))
 intro x hx;obtain⟨i,hi⟩:=List.mem_iff_getElem?.1 hx;have h1:=hle i;rw[aO.getD_get hi]at h1;have h2:=eG.1 h1 63;cases hb:x.testBit 63
 ·rfl
 ·have h3:=h2 hb;have hil:=(List.getElem?_eq_some_iff.1 hi).1;rw[(fC hV).length]at hil;rw[dL,List.getElem?_replicate,if_pos hil]at h3;exact absurd h3 (by decide)
structure Com where
 is:Bool
 sym:Int
 fst:Nat
 emp:Bool
noncomputable def jd (G:GD) (x:It):Com:=match aO.aY G x with
 | none=>⟨false,0,0,false⟩
 | some s=>if s<0 then⟨true,s,ofRow G.terms.length (E0 G) (F0 G) (cZ.dV G x) 0,cZ.pV (E0 G) (F0 G).length (cZ.dV G x)⟩else⟨true,s,0,false⟩
theorem vM {G:GD}{x:It}(h:aO.aY G x=none):jd G x=⟨false,0,0,false⟩:=by unfold jd;rw[h]
theorem rG {G:GD}{x:It}{s:Int}(h:aO.aY G x=some s)(hs:¬ s<0):jd G x=⟨true,s,0,false⟩:=by unfold jd;rw[h];exact if_neg hs
theorem mF {G:GD}{x:It}{s:Int}(h:aO.aY G x=some s)(hs:s<0):jd G x=⟨true,s,ofRow G.terms.length (E0 G) (F0 G) (cZ.dV G x) 0,cZ.pV (E0 G) (F0 G).length (cZ.dV G x)⟩:=by unfold jd;rw[h];exact if_pos hs
theorem LG {G:GD}(hV:aB G=true)(x:It):(jd G x).fst<top:=by
 cases h:aO.aY G x with
 | none=>rw[vM h];decide
 | some s =>
  by_cases hs:s<0
  ·rw[mF h hs];exact iJ _ _ (fC hV).2.2 _ (by decide)
  ·rw[rG h hs];exact(by decide:(0:Nat)<top)
end Go.Proofs.YticmnfmijdgmbaaGreatDoor.aJ
namespace Go.Proofs.YticmnfmijdgmbaaGreatDoor
open Go Go.RowKit Go.Lib
open aO (It)
open Go.Maps (Keyed)
open aJ (u64 jd Com)
open aJ.cZ (Pl)
theorem Jl {P:Program}{w:World}{o:Oper}{a:Act}{K:Act->World->Prop}{Q:Exit->Act->World->Prop}{b:Nat}(m x:Operand)(t:TypeId)(ok:Bool)(hop:o.op=Op.lookup t m x ok)(hm:a.eval m=.map (some b))(xv v:Value)(hx:a.eval x=xv)
  (hrun:(Instr.lookup t (.map (some b)) xv ok).run P w=.ok v w) (hK:K (a.put o.dst v) w):o.wp P a w K Q:=by
 unfold Oper.wp;simp[execOp,hop,hm,hx,hrun,Result.andThen];exact hK
theorem tN {P:Program}{w w2:World}{o:Oper}{a:Act}{K:Act->World->Prop}{Q:Exit->Act->World->Prop}{b:Nat}(m x v:Operand)(t:TypeId)(hop:o.op=Op.mapUpdate t m x v)(hm:a.eval m=.map (some b))(xv vv:Value)(hx:a.eval x=xv)(hv:a.eval v=vv)
  (hrun:(Instr.mapUpdate t (.map (some b)) xv vv).run P w=.ok () w2) (hK:K (a.put o.dst undef) w2):o.wp P a w K Q:=by
 unfold Oper.wp;simp[execOp,hop,hm,hx,hv,hrun,Result.andThen];exact hK
def wM (p:Pl):Value:=.agg #[.int .i64 (p.1:Int),.int .i64 p.2.1,.int .i64 p.2.2]
def Ep (p:Pl):List Value:=[.int .i64 (p.1:Int),.int .i64 p.2.1,.int .i64 p.2.2]
def qcells (Q:List Pl):List Value:=Q.flatMap Ep
theorem vW (Q:List Pl)(p:Pl):qcells (Q++[p])=qcells Q++Ep p:=by unfold qcells;rw[List.flatMap_append];simp
theorem vX (p:Pl)(Q:List Pl):qcells (p::Q)=Ep p++qcells Q:=by unfold qcells;rw[List.flatMap_cons]
theorem plV_inj {p q:Pl}(h:wM p=wM q):p=q:=by
 obtain⟨a,b,c⟩:=p;obtain⟨x,y,z⟩:=q;unfold wM at h;simp only[Value.agg.injEq,Array.mk.injEq,List.cons.injEq,Value.int.injEq,and_true,true_and]at h;obtain⟨h1,h2,h3⟩:=h;obtain rfl:a=x:=by omega
 rw[h2,h3]
theorem GH {x y:It}(h:mg x=mg y):x=y:=by
 unfold mg at h;simp only[Value.agg.injEq,Array.mk.injEq,List.cons.injEq,Value.int.injEq,and_true,true_and]at h;exact Prod.ext h.1 h.2
def amap (L:List (Pl×Nat)):List (Value×Value):=L.map fun e=>(wM e.1,u64 e.2)
def dD (L:List (Pl×Nat))(p:Pl):Nat:=match L.find? fun e=>decide (e.1=p)with
 | some e=>e.2
 | none=>0
theorem oK {L:List (Pl×Nat)}{p:Pl}(h:p∉L.map (·.1)):dD L p=0:=by
 unfold dD;rw[List.find?_eq_none.2 (fun e he=>by simp;intro e1;exact h (List.mem_map.2 ⟨e,he,e1⟩))]
theorem kJ {L:List (Pl×Nat)}(hn:(L.map (·.1)).Nodup){p:Pl}{v:Nat}(h:(p,v)∈L):dD L p=v:=by
 unfold dD;induction L with
 | nil=>cases h
 | cons a l ih =>
  rw[List.map_cons,List.nodup_cons]at hn;rw[List.find?_cons];rcases List.mem_cons.1 h with e | e
  ·subst e;simp
  ·by_cases e1:a.1=p
   ·exact absurd (List.mem_map.2 ⟨(p,v),e,e1.symm⟩) hn.1
   ·rw[dA e1];exact ih hn.2 e
theorem pz {L:List (Pl×Nat)}(h:((amap L).map (·.1)).Nodup):(L.map (·.1)).Nodup:=by
 have e:(amap L).map (·.1)=(L.map (·.1)).map wM:=by unfold amap;rw[List.map_map,List.map_map];rfl
 rw[e]at h;exact List.Pairwise.of_map wM (fun a b hab e=>hab (by rw[e])) h
def uy (c:Com):Value:=.agg #[.bool c.is,.int .i64 c.sym,u64 c.fst,.bool c.emp]
noncomputable def cmap (G:GD) (L:List It):List (Value×Value):=L.map fun x=>(mg x,uy (jd G x))
noncomputable def aC (B bS bA bC:Nat) (G:GD) (gc:List Value) (LA:List (Pl×Nat)) (LC:List It) (qv:Value) (Q:List Pl) (rest:List Item):List Item:=
 ae bS (.cells (gc++[.map (some bA),.map (some bC),qv]).toArray 156 (0,0))::lI 158 bA (amap LA)::lI 60 bC (cmap G LC)::aA B 3 qv Q.length (qcells Q)::rest
end Go.Proofs.YticmnfmijdgmbaaGreatDoor
namespace Go.Proofs.YticmnfmijdgmbaaGreatDoor.aJ
theorem GN {a b:Nat}(ha:a<top):inN a b=true↔fM a b:=by
 unfold inN;rw[decide_eq_true_eq,yf ha,eG];constructor
 ·intro h i hi;by_cases h64:i<64
  ·exact h i h64 hi
  ·rw[kC ha (by omega)]at hi;cases hi
 ·exact fun h i _ hi=>h i hi
end Go.Proofs.YticmnfmijdgmbaaGreatDoor.aJ
