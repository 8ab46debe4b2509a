import Derived.Test.YticmnfmijdgmbaaGreatDoorQGh
set_option linter.all false
set_option maxRecDepth 100000
set_option maxHeartbeats 4000000
namespace Go.Proofs.YticmnfmijdgmbaaGreatDoor.aJ
open Go Go.RowKit Go.Lib Go.Joins
theorem info4:(Tryz.prog.info? 4).map (fun i=>(i.zero,i.size,i.bytes))=some (some (.bool false),1,1):=by kernel_rfl
theorem o9 (n:Nat)(hn:n<=1000000)(w:World):(Instr.makeSlice 75 (.int .i64 (n:Int)) (.int .i64 (n:Int))).run Tryz.prog w=.ok (.slice (some ⟨w.heap.size,0,none⟩) n n) (w.alloc (.cells (Array.replicate n (.bool false)) 4)):=by
 obtain⟨i0,hi,hz0,hz1,hz2⟩:=info_parts info4;have:=run_makeSlice (P:=Tryz.prog) (w:=w) 75 4 i0 (.bool false) Tryz.underlying75 hi hz0 .i64 .i64 (n:Int) (n:Int) (by omega) (by omega) (by rw[hz1];omega) (by rw[hz2];omega) (by omega);rw[this,hz1];have e:madeCells (Value.bool false).cells ((n:Int).toNat*1)=Array.replicate n (.bool false):=by
  rw[Int.toNat_natCast,Nat.mul_one];refine Array.ext (by simp[madeCells]) fun i h1 h2=>?_;simp[madeCells,Value.cells,Nat.mod_one]
 rw[e,Int.toNat_natCast]
theorem everyE {G:GD}{gv tv ov sv pv:Value}{tf:Nat->Nat->Value}{rv:Nat->Value}{w:World}(h:nJ w gv G tv ov sv pv tf rv)(hV:aB G=true) :
  Calls Tryz.prog 73 #[gv,.func (.func 86) #[] #[]] w fun e W' =>
   ∃ lb L,e=.returned (.slice (some ⟨lb,0,none⟩) G.sorts.length G.sorts.length)/\Least false G.prods G.sorts.length L/\W'.heap[lb]?=some (.cells (L.map Value.bool).toArray 4)/\w.heap.size<=lb/\Below w.heap.size w W':=by
 have hs:=h.sorts;have hgv:=h.eq;subst hgv;obtain⟨sa,sc,rfl,hsn,_⟩:=hs;obtain⟨n60,s60,p120⟩:=gm hV;obtain⟨w0,hw0⟩:∃ w0,w0=(w.alloc (.cells #[tv,ov,.slice sa G.sorts.length sc,pv,.int .i64 G.start] 27)).alloc (.cells #[.func (.func 86) #[] #[]] 138):=⟨_,rfl⟩;have hB0:Below w.heap.size w w0:=by rw[hw0];exact((eH _ _).alloc (bJ _) _).alloc (by simp) _
 have b1:w0.heap[w.heap.size]?=some (.cells #[tv,ov,.slice sa G.sorts.length sc,pv,.int .i64 G.start] 27):=by
  rw[hw0];exact(Below.heap_alloc _ _ _ (by simp)).trans (aK w _)
 have b2:w0.heap[w.heap.size+1]?=some (.cells #[.func (.func 86) #[] #[]] 138):=by
  rw[hw0];have:=aK (w.alloc (.cells #[tv,ov,.slice sa G.sorts.length sc,pv,.int .i64 G.start] 27)) (.cells #[.func (.func 86) #[] #[]] 138)
  rwa [World.size_alloc]at this
 have hG:=h.mono hB0;have kv:=mO hG;rw[hV]at kv;have s0:=hB0.size;have q2:=cell_of_block b1 2;have q3:=cell_of_block b1 3;have q4:=cell_of_block b2 0;simp only[List.getElem?_toArray,List.getElem?_cons_zero,List.getElem?_cons_succ]at q2 q3 q4;generalize hns:G.sorts.length=ns at *;go_enter Tryz.func73,Tryz.ntmps73;go_wp2_with fail;rw[<-hw0];clear hw0;refine kv.mono ?_;rintro e w1 ⟨rfl,hB1⟩;replace q2:=cell_below hB1 q2;have km:=o9 ns (by omega);have i0:(0:Int)<=(ns:Int):=by omega
 have i1:(ns:Int)<=60:=by omega
 obtain⟨w3,hw3⟩:∃ w3,w3=(w1.alloc (.cells (Array.replicate ns (.bool false)) 4)).alloc (.cells #[.slice (some ⟨w1.heap.size,0,none⟩) ns ns] 75):=⟨_,rfl⟩;have hB3:Below w1.heap.size w1 w3:=by rw[hw3];exact((eH _ _).alloc (bJ _) _).alloc (by simp) _
 have c1:w3.heap[w1.heap.size]?=some (.cells ((List.replicate ns false).map Value.bool).toArray 4):=by
  rw[hw3,show((List.replicate ns false).map Value.bool).toArray=Array.replicate ns (.bool false)by simp];exact(Below.heap_alloc _ _ _ (by simp)).trans (aK w1 _)
 have c2:w3.heap[w1.heap.size+1]?=some (.cells #[.slice (some ⟨w1.heap.size,0,none⟩) ns ns] 75):=by
  rw[hw3];have:=aK (w1.alloc (.cells (Array.replicate ns (.bool false)) 4)) (.cells #[.slice (some ⟨w1.heap.size,0,none⟩) ns ns] 75)
  rwa [World.size_alloc]at this
 have s1:=hB1.size;have kg:=growE (W:=w3) (Bg:=w.heap.size) (Bi:=w.heap.size+1) (Be:=w1.heap.size+1) (lb:=w1.heap.size) hG hV q3 q4 (hB1.trans (hB3.mono s1)) (by rw[hns];exact c2) (by rw[hns];exact c1) s1;rw[hns]at kg;have KG:=hid kg;clear kg c1 c2 hG kv hV;go_wp2_with fail;rw[<-hw3];clear hw3;refine KG.o.mono ?_;rintro e w4 ⟨rfl,L,hL,hlb,hF⟩;go_wp2;go_ret;exact⟨w1.heap.size,L,rfl,hL,hlb,by omega,hB0.trans ((hB1.mono s0).trans ((hB3.mono (by omega)).trans (hF.kW (by have:=hB3.size;omega) (by rintro k rfl;omega))))⟩
theorem Jg {G:GD}{gv tv ov sv pv:Value}{tf:Nat->Nat->Value}{rv:Nat->Value}{w:World}(h:nJ w gv G tv ov sv pv tf rv)(hV:aB G=true) :
  Calls Tryz.prog 43 #[gv] w fun e W' =>
   ∃ lb L,e=.returned (.slice (some ⟨lb,0,none⟩) G.sorts.length G.sorts.length)/\Least false G.prods G.sorts.length L/\W'.heap[lb]?=some (.cells (L.map Value.bool).toArray 4)/\w.heap.size<=lb/\Below w.heap.size w W':=by
 have hgv:=h.eq;subst hgv;have k:=hid fun(w':World) (hb:Below w.heap.size w w')=>everyE (h.mono hb) hV;clear h hV;generalize G.sorts.length=n at *;generalize G.prods=ps at *;generalize G.start=st at *;go_enter Tryz.func43,Tryz.ntmps43;go_wp2_with fail;have hb:=(eH w.heap.size w).alloc (bJ _) (.cells #[tv,ov,sv,pv,.int .i64 st] 27);refine(k.o _ hb).mono ?_;rintro e w1 ⟨lb,L,rfl,h1,h2,h3,h4⟩;go_wp2;go_ret;exact⟨lb,L,rfl,h1,h2,eX hb.size h3,hb.trans (h4.mono hb.size)⟩
abbrev sets (F:List Nat):Array Value:=(F.map u64).toArray
abbrev Gl (nt eb fb n:Nat):Value:=.agg #[.int .i64 (nt:Int),.slice (some ⟨eb,0,none⟩) n n,.slice (some ⟨fb,0,none⟩) n n]
theorem mM {W:World}{fb:Nat}{F:List Nat}(h:W.heap[fb]?=some (.cells (sets F) 69)){i:Nat}(hi:i<F.length):W.cell? ⟨fb,i,none⟩=some (u64 (F.getD i 0)):=by
 rw[cell_of_block h];simp[dL,hi]
theorem pq {W:World}{fb:Nat}{F:List Bool}(h:W.heap[fb]?=some (.cells (F.map Value.bool).toArray 4)){i:Nat}(hi:i<F.length):W.cell? ⟨fb,i,none⟩=some (.bool (F.getD i false)):=by
 rw[cell_of_block h];simp[dL,hi]
theorem dh {W W':World}(h:Below W.heap.size W W'){k:Nat}{o:Obj}(ho:W.heap[k]?=some o):W'.heap[k]?=some o:=
 (h.block k (dZ ho)).trans ho
theorem JS {W:World}{eb fb n nt:Nat}{E:List Bool}{F:List Nat}{l:List Int}{lv:Value}{b:Nat}(hE:W.heap[eb]?=some (.cells (E.map Value.bool).toArray 4))(hF:W.heap[fb]?=some (.cells (sets F) 69))
  (hEl:E.length=n) (hFl:F.length=n) (hFt:∀ x∈F,x<top) (hb:b<top) (hl:dw W lv l) :
  Calls Tryz.prog 68 #[Gl nt eb fb n,lv,u64 b] W fun e W'=>e=.returned (u64 (ofRow nt E F l b))/\Below W.heap.size W W':=by
 obtain⟨W1,hW1⟩:∃ W1,W1=W.alloc (.cells #[.int .i64 (nt:Int),.slice (some ⟨eb,0,none⟩) n n,.slice (some ⟨fb,0,none⟩) n n] 130):=⟨_,rfl⟩;have hB:Below W.heap.size W W1:=by rw[hW1];exact(eH _ _).alloc (bJ _) _
 have c0:W1.cell? ⟨W.heap.size,0,none⟩=some (.int .i64 (nt:Int)):=by rw[hW1,World.cell?_alloc_mark];rfl
 have c1:W1.cell? ⟨W.heap.size,1,none⟩=some (.slice (some ⟨eb,0,none⟩) n n):=by rw[hW1,World.cell?_alloc_mark];rfl
 have c2:W1.cell? ⟨W.heap.size,2,none⟩=some (.slice (some ⟨fb,0,none⟩) n n):=by rw[hW1,World.cell?_alloc_mark];rfl
 replace hE:=hid (dh hB hE);replace hF:=hid (dh hB hF);obtain⟨⟨la,lc,rfl,hln,hlc⟩,hlr⟩:=hl.mono hB;clear hl;have hL:=iJ nt E hFt l hb;have ku:=hid (fun(a c:Nat) ha hc w=>oM a c ha hc w);have kw:=hid (fun(a:Nat) (s:Int) ha w=>Eg a s ha w);have hR0:Hid (0 ||| ofRow nt E F l b=ofRow nt E F l b):=Nat.zero_or _;generalize hres:ofRow nt E F l b=R at *;generalize hll:l.length=ll at *;have HM:Hid (∀ k,k<ll->-9223372036854775808<=l.getD k 0/\l.getD k 0<=9223372036854775807):=fun k hk=>hlr _ (lu (by omega));have HD:Hid (∀ k,k<ll->l.drop k=l.getD k 0::l.drop (k+1)):=fun k hk=>by
  rw[List.drop_eq_getElem_cons (by omega),dL,dH (by omega)];rfl
 clear hlr;go_enter Tryz.func68,Tryz.ntmps68;go_wp2_with fail;rw[<-hW1];clear hW1
 go_loop [7,12] (fun o i=>∃ (k a:Nat),k<=ll/\i=.int .i64 (k:Int)/\o=u64 a/\a<top/\a ||| ofRow nt E F (l.drop k) b=R) (fun _ i=>ll-(RowKit.intOf i).toNat)
 case atStart=>exact⟨0,0,by omega,rfl,rfl,by decide,by rw[List.drop_zero,hres];exact hR0.o⟩
 case round =>
  obtain⟨k,a,hk,rfl,rfl,ha,hr⟩:=hrel;by_cases hlt:k<ll
  ·obtain⟨lb,lo,rfl,hcc⟩:=hlc (by omega);have g1:=hcc k hlt;obtain⟨m1,m2⟩:=HM.o k hlt;rw[HD.o k hlt]at hr;have hof:ofRow nt E F (l.getD k 0::l.drop (k+1)) b=if 0<=l.getD k 0 then(if l.getD k 0<nt then aZ (l.getD k 0)else 0)else if (F.length:Int)<=-1-l.getD k 0 then 0 else
    F.getD (-1-l.getD k 0).toNat 0 ||| (if E.getD (-1-l.getD k 0).toNat false=true then ofRow nt E F (l.drop (k+1)) b else 0):=rfl
   rw[hof]at hr;clear hof hcc;have i0:(0:Int)<=(k:Int):=by omega
   have i1:(k:Int)<(ll:Int):=by omega
   generalize hrest:ofRow nt E F (l.drop (k+1)) b=rest at *;generalize l.getD k 0=s at *;by_cases hs0:0<=s
   ·rw[if_pos hs0]at hr;by_cases hst:s<nt
    ·rw[if_pos hst]at hr;have HR:=hid hr;clear hr;go_wp2_with fail;refine(kw.o a s ha _).mono ?_;rintro e w' ⟨rfl,rfl⟩;go_wp2;go_ret;exact⟨by rw[<-HR.o]<;>rfl,hB⟩
    ·rw[if_neg hst,Nat.or_zero]at hr;have HR:=hid hr;clear hr;go_wp2;go_ret;exact⟨by rw[<-HR.o]<;>rfl,hB⟩
   ·rw[if_neg hs0,hFl]at hr;have hs1:s<0:=by omega
    have i5:IntKind.i64.wrap (-1-s)=-1-s:=by rw[IntKind.wrap_i64];omega
    by_cases hsn:(n:Int)<=-1-s
    ·rw[if_pos hsn,Nat.or_zero]at hr;have HR:=hid hr;clear hr;go_wp2;go_ret;exact⟨by rw[<-HR.o]<;>rfl,hB⟩
    ·rw[if_neg hsn]at hr;have j0:0<=-1-s:=by omega
     have j1:-1-s<n:=(by omega);have g2:=mM hF.o (i:=(-1-s).toNat) (by omega);have g3:=pq hE.o (i:=(-1-s).toNat) (by omega);have hft:=getD_lt hFt (-1-s).toNat;generalize F.getD (-1-s).toNat 0=f at *;generalize E.getD (-1-s).toNat false=eb at *;cases eb
     ·rw[if_neg (by simp),Nat.or_zero]at hr;have HR:=hid hr;clear hr;go_wp2_with fail;refine(ku.o a f ha hft _).mono ?_;rintro e w' ⟨rfl,rfl⟩;go_wp2;go_ret;exact⟨by rw[<-HR.o]<;>rfl,hB⟩
     ·rw[if_pos rfl]at hr;have HR:Hid ((a ||| f) ||| rest=R):=by rw[Nat.or_assoc];exact hr
      have hor:=oH ha hft;clear hr;go_wp2_with fail;refine(ku.o a f ha hft _).mono ?_;rintro e w' ⟨rfl,rfl⟩;go_wp2;exact⟨⟨k+1,a ||| f,by omega,by go_num,rfl,hor,by rw[hrest];exact HR.o⟩,by simp[RowKit.intOf];omega⟩
  ·have hkk:k=ll:=by omega
   have hd:l.drop k=[]:=List.drop_eq_nil_of_le (by omega);rw[hd]at hr;have hr2:Hid (a ||| b=R):=hr;clear hr hd;have i1:¬ ((k:Int)<(ll:Int)):=by omega
   go_wp2_with fail;refine(ku.o a b ha hb _).mono ?_;rintro e w' ⟨rfl,rfl⟩;go_wp2;go_ret;exact⟨by rw[<-hr2.o]<;>rfl,hB⟩
structure yP (W:World) (lb Bl Bj Bc n:Nat) (L:List Nat) (c:Bool):Prop where
 list:W.heap[lb]?=some (.cells (sets L) 69)
 var:W.heap[Bl]?=some (.cells #[.slice (some ⟨lb,0,none⟩) n n] 46)
 join:W.heap[Bj]?=some (.cells #[.func (.func 70) #[] #[]] 128)
 chg:W.heap[Bc]?=some (.cells #[.bool c] 4)
 len:L.length=n
 ne:lb≠Bc
theorem yP.keep {W W':World}{lb Bl Bj Bc n:Nat}{L:List Nat}{c:Bool}(h:yP W lb Bl Bj Bc n L c)(hb:Below W.heap.size W W'):yP W' lb Bl Bj Bc n L c:=
 ⟨dh hb h.list,dh hb h.var,dh hb h.join,dh hb h.chg,h.len,h.ne⟩
theorem Jq (a b:Nat)(ha:a<top)(hb:b<top)(w:World):Calls Tryz.prog 70 #[u64 a,u64 b] w fun e w'=>e=.returned (u64 (a ||| b))/\w'=w:=
 (oM a b ha hb w).mono fun _ _ ⟨h1,h2⟩=>⟨h1,h2.symm⟩
theorem Ik {W:World}{lb Bl Bj Bc n:Nat}{L:List Nat}{c:Bool}(h:yP W lb Bl Bj Bc n L c)(i:Nat)(hi:i<n)(x:Nat)(hx:x<top)(hL:∀ x∈L,x<top) :
  Calls Tryz.prog 113 #[.int .i64 (i:Int),u64 x,.pointer (some ⟨Bj,0,none⟩),.pointer (some ⟨Bl,0,none⟩),.pointer (some ⟨Bc,0,none⟩)] W fun e W' =>
   (∃ v,e=.returned v)/\yP W' lb Bl Bj Bc n (L.set i (L.getD i 0 ||| x)) (c || ((L.getD i 0 ||| x) != L.getD i 0))/\Far (fun k=>k=lb\/k=Bc) W W':=by
 have hlen:=h.len;have c1:=mM h.list (i:=i) (by omega);have c2:=cell_of_block h.var 0;have c3:=cell_of_block h.join 0;have c4:=cell_of_block h.chg 0;have f1:=unfrozen_of_block h.list i;have f4:=unfrozen_of_block h.chg 0;simp only[List.getElem?_toArray,List.getElem?_cons_zero]at c2 c3 c4;have hne:=h.ne;have fs:∀ m v,((W.drewN m).setCell {block:=lb,off:=i} v).cell? {block:=Bc,off:=0}=some (.bool c):=fun m v =>
  (World.cell?_setCell_far _ _ _ _ hne).trans c4
 have hyt:=getD_lt hL i;have ke:=hid fun w=>Jq (L.getD i 0) x hyt hx w;have hset0:L.set i (L.getD i 0)=L:=zo;generalize hy:L.getD i 0=y at *;generalize hz:y ||| x=z at *;have i0:(0:Int)<=(i:Int):=by omega
 have i1:(i:Int)<(n:Int):=by omega
 have H:=hid h;have HL:=hid hL;clear h hL hz;by_cases hxy:z=y
 ·subst hxy;rw[hset0,bne_self_eq_false,Bool.or_false];go_enter Tryz.func113,Tryz.ntmps113;go_wp2_with fail
  go_quiet ((go_at_call 70;exact Calls.quiet_of_same (ke.o _)))
  go_wp2
  go_end0
  exact⟨⟨_,rfl⟩,⟨H.o.list,H.o.var,H.o.join,H.o.chg,H.o.len,H.o.ne⟩,(Far.refl _ _).drewN nq⟩
 ·have hb1:((z:Int) != (y:Int))=true:=by rw[bne_iff_ne];omega
  rw[bne_iff_ne.2 hxy,Bool.or_true];go_enter Tryz.func113,Tryz.ntmps113;go_wp2_with fail
  go_quiet ((go_at_call 70;exact Calls.quiet_of_same (ke.o _)))
  go_wp2
  go_end0
  have hst:yP (((W.drewN nq).setCell {block:=lb,off:=i} (u64 z)).setCell {block:=Bc,off:=0} (Value.bool true)) lb Bl Bj Bc n (L.set i z) true:=by
   obtain⟨h1,h2,h3,h4,h5,h6⟩:=H.o;have hl:((W.drewN nq).setCell {block:=lb,off:=i} (u64 z)).heap[lb]?=some (.cells (sets (L.set i z)) 69):=by
    have:=block_setCell (w:=W.drewN nq) (i:=i) h1 (u64 z);rw[this];simp[sets,List.map_set]
   have far:∀ k,k≠lb->k≠Bc->(((W.drewN nq).setCell {block:=lb,off:=i} (u64 z)).setCell {block:=Bc,off:=0} (Value.bool true)).heap[k]?=W.heap[k]?:=fun k e1 e2 =>
    (Below.heap_setCell _ _ _ _ e2).trans (Below.heap_setCell _ _ _ _ e1)
   have n1:Bl≠lb:=fun e=>by rw[e,h1]at h2;simp at h2
   have n2:Bl≠Bc:=fun e=>by rw[e,h4]at h2;simp at h2
   have n3:Bj≠lb:=fun e=>by rw[e,h1]at h3;simp at h3
   have n4:Bj≠Bc:=fun e=>by rw[e,h4]at h3;simp at h3
   refine⟨?_,?_,?_,?_,by simp[h5],h6⟩
   ·exact(Below.heap_setCell _ _ _ _ h6).trans hl
   ·exact(far _ n1 n2).trans h2
   ·exact(far _ n3 n4).trans h3
   ·have h4':((W.drewN nq).setCell {block:=lb,off:=i} (u64 z)).heap[Bc]?=some (.cells #[.bool c] 4):=(Below.heap_setCell _ _ _ _ (Ne.symm h6)).trans h4;have:=block_setCell (i:=0) h4' (Value.bool true);rw[this];simp
  exact⟨⟨_,rfl⟩,hst,(((Far.refl _ _).drewN nq).set (.inl rfl) _).set (.inr rfl) _⟩
def roomV:Value->Nat
 | .int _ n=>top-n.toNat
 | _=>0
def rooms:Option Obj->Nat
 | some (.cells cs _ _)=>(cs.toList.map roomV).sum
 | _=>0
theorem rY (L:List Nat)(t:TypeId)(fr:Nat×Nat):rooms (some (.cells (sets L) t fr))=room L:=by
 show((L.map u64).map roomV).sum=(L.map fun a=>top-a).sum;rw[List.map_map];rfl
theorem growS {W:World}{lb n tf:Nat}{caps:Array Value}{evs:List Ev}(eg:∀ args w,(callFunc tf args).run Tryz.prog w=.ok (.enter tf args) w)(hl:W.heap[lb]?=some (.cells (sets (List.replicate n 0)) 69))
  (tell:Hid (∀ (W':World) (Bl Bj Bc:Nat) (L:List Nat),Far (fun k=>k=lb) W W'->yP W' lb Bl Bj Bc n L false->(∀ x∈L,x<top)->W.heap.size<=Bc ->
   Calls Tryz.prog tf (#[.func (.func 113) #[] #[.pointer (some ⟨Bj,0,none⟩),.pointer (some ⟨Bl,0,none⟩),.pointer (some ⟨Bc,0,none⟩)]]++caps) W' fun e W'' =>
    (∃ v,e=.returned v)/\∃ L' c,yP W'' lb Bl Bj Bc n L' c/\Far (fun k=>k=lb\/k=Bc) W' W''/\pI evs evs L L' c)) :
  Calls Tryz.prog 69 #[.slice (some ⟨lb,0,none⟩) n n,.func (.func 70) #[] #[],.func (.func tf) #[] caps] W fun e W' =>
   e=.returned (.slice (some ⟨lb,0,none⟩) n n)/\∃ L,fV evs n L/\W'.heap[lb]?=some (.cells (sets L) 69)/\Far (fun k=>k=lb) W W':=by
 have hlb:lb<W.heap.size:=(dZ hl);go_enter Tryz.func69,Tryz.ntmps69;go_wp2;obtain⟨W2,hW2⟩:∃ W2,W2=(W.alloc (.cells #[.slice (some ⟨lb,0,none⟩) n n] 46)).alloc (.cells #[.func (.func 70) #[] #[]] 128):=⟨_,rfl⟩;have hB2:Below W.heap.size W W2:=by rw[hW2];exact((eH _ _).alloc (bJ _) _).alloc (by simp) _
 have b1:W2.heap[W.heap.size]?=some (.cells #[.slice (some ⟨lb,0,none⟩) n n] 46):=by
  rw[hW2];exact(Below.heap_alloc _ _ _ (by simp)).trans (aK W _)
 have b2:W2.heap[W.heap.size+1]?=some (.cells #[.func (.func 70) #[] #[]] 128):=by
  rw[hW2];have:=aK (W.alloc (.cells #[.slice (some ⟨lb,0,none⟩) n n] 46)) (.cells #[.func (.func 70) #[] #[]] 128)
  rwa [World.size_alloc]at this
 have b3:=(hB2.block lb hlb).trans hl;have s2:=hB2.size;rw[<-hW2];clear hW2;have hbl:W.heap.size≠lb:=by omega
 generalize hBl:W.heap.size=Bl at *;refine qh (fun a' w'=>∃ (u7 u8 u9 u10 u11 u12:Value),a'={tmps:=#[.slice (some ⟨lb,0,none⟩) n n,.func (.func 70) #[] #[],.func (.func tf) #[] caps,.pointer (some ⟨Bl,0,none⟩),.pointer (some ⟨Bl+1,0,none⟩),undef,.slice none 0 0,u7,u8,u9,u10,u11,u12],defers:=[]} /\
   ∃ L,w'.heap[lb]?=some (.cells (sets L) 69)/\L.length=n/\w'.heap[Bl]?=some (.cells #[.slice (some ⟨lb,0,none⟩) n n] 46)/\w'.heap[Bl+1]?=some (.cells #[.func (.func 70) #[] #[]] 128) /\
    ji evs (List.replicate n 0) L/\(∀ x∈L,x<top)/\Far (fun k=>k=lb) W w')
  (fun _ w'=>rooms w'.heap[lb]?) ?_ ?_
 ·exact⟨_,_,_,_,_,_,rfl,_,b3,by simp,b1,b2,.refl,by(intro x hx;rw[List.eq_of_mem_replicate hx];decide),(Far.kZ (by rw[hBl];exact hB2))⟩
 ·clear b1 b2 b3 s2 hB2 hl;rintro a' w' ⟨u7,u8,u9,u10,u11,u12,rfl,L,b3,hL,b1,b2,hR,hLt,hF⟩;have hw2:=hF.size;obtain⟨w1,hw1⟩:∃ w1,w1=w'.alloc (.cells #[.bool false] 4):=⟨_,rfl⟩;have hB1:Below w'.heap.size w' w1:=by rw[hw1];exact(eH _ _).alloc (bJ _) _
  have kp:∀ {b:Nat} {o:Obj},w'.heap[b]?=some o->w1.heap[b]?=some o:=fun ho=>(hB1.block _ (dZ ho)).trans ho;have c4:w1.heap[w'.heap.size]?=some (.cells #[.bool false] 4):=by rw[hw1];exact aK w' _
  have hlt:=(dZ b3);have hW1:Far (fun k=>k=lb) W w1:=hF.on (Far.kZ (S:=fun _=>False) hB1) (fun i h=>h.elim);have HP:=hid (tell.o w1 Bl (Bl+1) w'.heap.size L hW1 ⟨kp b3,kp b1,kp b2,c4,hL,by omega⟩ hLt (by omega));have fl:=rY L 69 (0,0);have HB:=hid b3;have HB1:=hid (kp b3);have HR:=hid hR;have hbl2:=(dZ b1);have hbl3:=(dZ b2);clear hR b1 b2 b3 c4 hB1 hL;go_wp2_with fail;rw[<-hw1];clear hw1;refine HP.o.mono ?_;rintro e w2 ⟨⟨v,rfl⟩,L',c,hS,hFF,hPa⟩;have d1:=cell_of_block hS.chg 0;have d2:=cell_of_block hS.var 0;simp only[List.getElem?_toArray,List.getElem?_cons_zero]at d1 d2;have hF2:Far (fun k=>k=lb) W w2:=hW1.on hFF (by
   rintro i (rfl | rfl)
   ·exact .inl rfl
   ·right;have:=hF.size;omega)
  cases c
  ·obtain⟨rfl,hcl⟩:=xR hPa;go_wp2;simp only[Exit.jump];go_ret;exact⟨rfl,_,⟨HR.o,hcl,hLt⟩,hS.list,hF2⟩
  ·go_wp2
   go_step3
   refine⟨rfl,⟨_,_,_,_,_,_,rfl,L',hS.list,hS.len,hS.var,hS.join,AY HR.o hPa.1,hPa.2.2.1,hF2⟩,?_⟩;rw[hS.list,HB.o,rY,rY];exact hPa.2.2.2.2.1 rfl
def qJ (nt:Nat)(E:List Bool)(ps:List PD):List Ev:=ps.map fun p=>(p.sort.toNat,fun L=>ofRow nt E L p.rs 0)
theorem uC {w w':World}(h:Below w.drew.heap.size w.drew w'):Below w.heap.size w w':=⟨h.os,h.tape,h.output,h.size,h.block⟩
theorem Ls {nt:Nat}{E:List Bool}{ps:List PD}{j:Nat}(h:j<ps.length):(qJ nt E ps).take (j+1)=(qJ nt E ps).take j++[((ps.getD j default).sort.toNat,fun L=>ofRow nt E L (ps.getD j default).rs 0)]:=by
 unfold qJ;rw[<-List.map_take,List.take_add_one,List.map_append,List.map_take,dL,dH h];rfl
theorem passF {G:GD}{gv tv ov sv pv:Value}{tf:Nat->Nat->Value}{rv:Nat->Value}{w0 W:World}{Bg Br eb lb Bl Bj Bc:Nat}{E:List Bool}{L:List Nat}(hG:nJ w0 gv G tv ov sv pv tf rv)(hV:aB G=true)
  (hbox:w0.cell? ⟨Bg,3,none⟩=some pv) (hE:W.heap[eb]?=some (.cells (E.map Value.bool).toArray 4)) (nE:¬ (eb=lb\/eb=Bc)) (hEl:E.length=G.sorts.length) (h0:Below w0.heap.size w0 W)
  (hBr:W.heap[Br]?=some (.cells #[.int .i64 (G.terms.length:Int),.slice (some ⟨eb,0,none⟩) G.sorts.length G.sorts.length,.slice (some ⟨lb,0,none⟩) G.sorts.length G.sorts.length] 130))
  (hS:yP W lb Bl Bj Bc G.sorts.length L false) (hL:∀ x∈L,x<top) (g1:w0.heap.size<=lb) (g2:w0.heap.size<=Bc) :
  Calls Tryz.prog 112 #[.func (.func 113) #[] #[.pointer (some ⟨Bj,0,none⟩),.pointer (some ⟨Bl,0,none⟩),.pointer (some ⟨Bc,0,none⟩)],.pointer (some ⟨Bg,0,none⟩),.pointer (some ⟨Br,0,none⟩)] W fun e W' =>
   (∃ v,e=.returned v)/\∃ L' c,yP W' lb Bl Bj Bc G.sorts.length L' c/\Far (fun k=>k=lb\/k=Bc) W W'/\pI (qJ G.terms.length E G.prods) (qJ G.terms.length E G.prods) L L' c:=by
 have hp:=hG.prods;obtain⟨pa,pc,rfl,hpn,hp⟩:=hp;have HV:=hid hV;obtain⟨n60,s60,p120⟩:=gm hV;generalize hnp:G.prods.length=np at *;generalize hns:G.sorts.length=ns at *;generalize hnt:G.terms.length=nt at *;have HS0:=hid hS;have hb3:=cell_below h0 hbox;have hlen:=hS.len;clear hV;go_enter Tryz.func112,Tryz.ntmps112;go_wp2_with fail
 go_loopw [9] (fun i wr=>∃ (j:Nat) (Lj:List Nat) (c:Bool),j<=np/\i=.int .i64 (j:Int)/\yP wr lb Bl Bj Bc ns Lj c/\Far (fun k=>k=lb\/k=Bc) W wr/\pI (qJ nt E G.prods) ((qJ nt E G.prods).take j) L Lj c) (fun i _=>np-(RowKit.intOf i).toNat)
 case atStart=>exact⟨0,L,false,by omega,rfl,hS,Far.refl _ _,by rw[List.take_zero];exact Dc _ hL⟩
 case round =>
  clear hS;obtain⟨j,Lj,c,hj,rfl,hS,hF,hP⟩:=hrel;have hbw:Below w0.heap.size w0 wr:=h0.trans (hF.kW h0.size (by rintro k (rfl | rfl)<;>omega));have nB:¬ (Br=lb\/Br=Bc):=by
   have h1:=HS0.o.list;have h2:=HS0.o.chg;rintro(rfl | rfl)
   ·rw[hBr]at h1;simp at h1
   ·rw[hBr]at h2;simp at h2
  have hbr:=hF.heap hBr nB;by_cases hlt:j<np
  ·obtain⟨b,off,rfl,hc⟩:=hp (by omega);obtain⟨d0,d1,d2,d3⟩:=hc j hlt;replace d0:=cell_below hbw d0;replace d1:=cell_below hbw d1;replace d2:=cell_below hbw d2;replace d3:=cell_below hbw d3;obtain⟨v1,v2,v3,v4⟩:=jy (mP HV.o (k:=j) (by omega));rw[hns]at v2;have hR:=(hG.rights j (by omega)).mono hbw;have hLt:=hP.2.2.1;have hrow:ofRow nt E Lj (G.prods.getD j default).rs 0<top:=iJ nt E hLt _ (by decide);have hmem:((G.prods.getD j default).sort.toNat,fun L=>ofRow nt E L (G.prods.getD j default).rs 0)∈qJ nt E G.prods:=
    List.mem_map.2 ⟨_,by rw[dL,dH (by omega)];exact List.getElem_mem (by omega),rfl⟩
   have hst:=AZ hP hmem (by rw[hlen];simp only;omega) hrow;rw[<-Ls (by omega)]at hst;simp only at hst;clear hc hP hmem;generalize hPP:G.prods.getD j default=P at *;clear hPP;obtain⟨⟨ra,rc,hrv,hrn,hrc⟩,hri⟩:=hR;rw[hrv]at d2;obtain⟨so,hso⟩:∃ so:Nat,P.sort=so:=⟨P.sort.toNat,by omega⟩;rw[hso]at d1;have hto:P.sort.toNat=so:=by omega
   have hstep:stepS Lj (P.sort.toNat,fun L=>ofRow nt E L P.rs 0)=Lj.set so (Lj.getD so 0 ||| ofRow nt E Lj P.rs 0):=by unfold stepS;rw[hto]
   rw[hstep,hto]at hst;have HST:=hid hst;have hsz:=hbw.size;have i0:(0:Int)<=(j:Int):=by omega
   have i1:(j:Int)<(np:Int):=by omega
   have hsn:so<ns:=by omega
   obtain⟨w2,hw2⟩:∃ w2,w2=wr.alloc (.cells #[.string P.lab,.int .i64 (so:Int),.slice ra P.rs.length rc,.int .i64 P.cls] 71):=⟨_,rfl⟩;have hb2:Below wr.heap.size wr w2:=by rw[hw2];exact(eH _ _).alloc (bJ _) _
   have p1:w2.cell? ⟨wr.heap.size,1,none⟩=some (.int .i64 (so:Int)):=by rw[hw2,World.cell?_alloc_mark];rfl
   have p2:w2.cell? ⟨wr.heap.size,2,none⟩=some (.slice ra P.rs.length rc):=by rw[hw2,World.cell?_alloc_mark];rfl
   have hS2:=hS.keep hb2;have hF2:Far (fun k=>k=lb\/k=Bc) W w2:=hF.trans (Far.kZ hb2);have hbr2:=dh hb2 hbr;have r0:=cell_of_block hbr2 0;have r1:=cell_of_block hbr2 1;have r2:=cell_of_block hbr2 2;simp only[List.getElem?_toArray,List.getElem?_cons_zero,List.getElem?_cons_succ]at r0 r1 r2;have heb:w2.heap[eb]?=some (.cells (E.map Value.bool).toArray 4):=dh hb2 (hF.heap hE nE);have hia:dw w2 (.slice ra P.rs.length rc) P.rs:=dw.mono ⟨⟨ra,rc,rfl,hrn,hrc⟩,hri⟩ hb2;have kof:Hid (∀ (W':World),Below w2.heap.size w2 W'->Calls Tryz.prog 68 #[Gl nt eb lb ns,.slice ra P.rs.length rc,.int .u64 0] W' fun e W''=>e=.returned (u64 (ofRow nt E Lj P.rs 0))/\Below W'.heap.size W' W''):=fun(W':World) (hb:Below w2.heap.size w2 W')=>JS (b:=0) (nt:=nt) (dh hb heb) (dh hb hS2.list) hEl hS2.len hLt (by decide) (hia.mono hb);have kmo:=hid fun(W':World) (hb:Below w2.heap.size w2 W')=>Ik (hS2.keep hb) so hsn _ hrow hLt;generalize hrow2:ofRow nt E Lj P.rs 0=x at *;clear hstep hto hrv hso v1 v2 hst hia heb hrow hrow2 hLt hri hrc hrn v3 v4;generalize P.rs.length=rl at *;have hlb:=(dZ hS.list);have hbc:=(dZ hS.chg);go_wp2_with fail;rw[<-hw2];clear hw2;generalize hpb:wr.heap.size=pb at *;have nP:¬ (pb=lb\/pb=Bc):=by omega
   go_region_held3 (fun w'=>w'.cell? ⟨pb,1,none⟩=some (.int .i64 (so:Int))/\w'.cell? ⟨pb,2,none⟩=some (.slice ra rl rc)/\w'.cell? ⟨Br,0,none⟩=some (.int .i64 (nt:Int))/\w'.cell? ⟨Br,1,none⟩=some (.slice (some ⟨eb,0,none⟩) ns ns)/\w'.cell? ⟨Br,2,none⟩=some (.slice (some ⟨lb,0,none⟩) ns ns))
    (first
      | go_keep
      | (go_split_ands;refine⟨?_,?_,?_,?_,?_⟩<;>(apply cell_below hb5;assumption))
      | (go_split_ands;exact⟨hF6.cell (by assumption) nP,hF6.cell (by assumption) nP,hF6.cell (by assumption) nB,hF6.cell (by assumption) nB,hF6.cell (by assumption) nB⟩))
    ((first | (go_at_call 68;first | (refine(kof.o _ (eH _ _)).mono ?_;rintro e w5 ⟨rfl,hb5⟩) | (refine(kof.o _ (eH _ _).drew).mono ?_;rintro e w5 ⟨rfl,hb5⟩)) | (go_at_call 113;refine(kmo.o _ (uC hb5)).mono ?_;rintro e w6 ⟨⟨v,rfl⟩,hS6,hF6⟩)))
   have hFF:Far (fun k=>k=lb\/k=Bc) W w6:=by
    first
      | exact(hF2.trans (Far.kZ hb5)).trans hF6
      | exact(hF2.trans (Far.kZ (uC hb5))).trans hF6
   clear hF6 hb5;go_wp2;exact⟨⟨j+1,_,_,by omega,by go_num,hS6,hFF,HST.o⟩,by simp[RowKit.intOf];omega⟩
  ·obtain rfl:j=np:=by omega
   have hlf:(qJ nt E G.prods).length=j:=by rw[<-hnp];simp[qJ]
   rw[List.take_of_length_le (by omega)]at hP;have HP:=hid hP;clear hP;go_wp2
   go_end0
   exact⟨⟨_,rfl⟩,Lj,c,hS,hF,HP.o⟩
end Go.Proofs.YticmnfmijdgmbaaGreatDoor.aJ
