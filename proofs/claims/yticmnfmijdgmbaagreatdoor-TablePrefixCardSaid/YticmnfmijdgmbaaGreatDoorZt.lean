/- The document's example of tables holds. -/
import Derived.Test.YticmnfmijdgmbaaGreatDoorZq
import Derived.Test.YticmnfmijdgmbaaGreatDoorZr
import Derived.Test.YticmnfmijdgmbaaGreatDoorTf
set_option linter.unusedVariables false
set_option linter.unusedSimpArgs false
namespace Go.Proofs.YticmnfmijdgmbaaGreatDoor
open Go Go.RowKit Go.Lib
open X14 (It iterB BuiltOk BuiltMany exT exU)
open S13 (bitN top E0 F0 Sub)
open S13.X15 (Pl LeastA askX places cxB)
open S16
theorem wpList_push_full {P:Program} {ops:Array Oper} {rest:List Oper} {o:Oper} {a:Act} {w:World} {Q:Exit->Act->World->Prop} (hgd:o.guard=none) (s x:Operand) (t e:TypeId) (ho:o.op=.call {callee:=.builtin .append,args:=#[s,x],argTypes:=#[t,t]})
  (z:Value) (sz bytes:Nat) (ht:P.underlying t=some (.slice e)) (hinfo:(P.info? e).map (fun i=>(i.zero,i.size,i.bytes))=some (some z,sz,bytes)) (hz1:z.cells.size=sz) (hby:bytes<=64)
  (gg off n:Nat) (xs:List Value) (hs:a.eval s=.slice (some ⟨gg,off,none⟩) n n) (hxl:xs.length=n * sz) (hxc:∀ j u,xs[j]?=some u->w.cell? ⟨gg,off + j,none⟩=some u) (g:Nat) (hx:a.eval x=.slice (some ⟨g,0,none⟩) 1 1) (qs:List Value) (hql:qs.length=sz) (hb:∀ j u,qs[j]?=some u->w.cell? ⟨g,j,none⟩=some u) (hq:∀ q ∈ qs,q.oneCell'=true) (hn:n<=1000000000)
  (h:∀ c w',Below w.heap.size w w'->(∀ j u,(xs ++ qs)[j]?=some u->w'.cell? ⟨w.heap.size,j,none⟩=some u)->wpList P ops Q rest (a.put o.dst (.slice (some ⟨w.heap.size,0,none⟩) (n + 1) c)) w'):wpList P ops Q (o :: rest) a w:=by
 refine wpList_plain hgd fun K' hK'=>?_
 obtain ⟨i,hi,hz,hsz,hbi⟩:=info_parts hinfo
 have hsrc:Src P i.size t (.slice (some ⟨g,0,none⟩) 1 1) 1 qs w:=Src.ofSlice w ht ⟨g,0,none⟩ 1 1 qs (by rw [hsz,hql,Nat.one_mul]) (fun j u hj=>by
  have:(⟨g,0,none⟩:Addr).add j=⟨g,j,none⟩:=by rw [Go.WideShapes.add_plain,Nat.zero_add]
  rw [this]; exact hb j u hj) hq
 have hold:(Builtin.firstCells i.size n (.slice (some ⟨gg,off,none⟩) n n)).run P w.drew=.ok xs.toArray w.drew:=run_firstCells_some w.drew i.size n ⟨gg,off,none⟩ n n xs (by rw [hsz]; exact hxl) fun j u hu=>by
  rw [show (⟨gg,off,none⟩:Addr).add j=⟨gg,off + j,none⟩ by unfold Addr.add; split <;> simp_all]
  exact hxc j u hu
 have hr:=run_append_grow_src (P:=P) w t t o.type e i z ht hi hz (some ⟨gg,off,none⟩) n n xs hold (.slice (some ⟨g,0,none⟩) 1 1) 1 qs hsrc (by omega) (by omega) (growslice_fits (by omega) (by
  have:(n + 1) * i.bytes<=(n + 1) * 64:=Nat.mul_le_mul_left _ (by omega)
  omega))
 generalize hK:grownCap w (n + 1) n e=K at hr
 have hblk:=heap_alloc_new w.drew (.cells ((xs ++ qs).toArray ++ Builtin.zeroCells z.cells (K - (n + 1))) e)
 unfold Oper.wp execOp
 simp only [ho,resolve,invoke,builtin,Sem.run_bind,Sem.run_pure,Result.andThen_ok,List.map_toArray,List.map_cons,List.map_nil,hs,hx,hr]
 refine hK' _ _ (h _ _ ⟨rfl,rfl,rfl,by simp,fun k hk=>Below.heap_alloc w.drew _ k hk⟩ fun j u hj=>?_)
 have hjl:=(List.getElem?_eq_some_iff.1 hj).1
 refine (coQ hblk j).trans ?_
 rw [Array.getElem?_append_left (by simpa using hjl)]
 simpa using hj
theorem info71:(Tryz.prog.info? 71).map (fun i=>(i.zero,i.size,i.bytes))=some (some (.agg #[.string ⟨#[]⟩,.int .i64 0,.slice none 0 0,.int .i64 0]),4,56):=by kernel_rfl
def wT (w:World):World:=((((w.alloc (.cells #[.string ⟨#[97]⟩,.string ⟨#[]⟩,.bool false,.int .i64 0] 105)).alloc (.cells #[.string ⟨#[83]⟩] 9)).alloc (.cells #[.int .i64 0,.int .i64 (-1)] 61)).alloc (.cells #[.string ⟨#[112]⟩,.int .i64 0,.slice (some ⟨w.heap.size + 1 + 1,0,none⟩) 2 2,.int .i64 0,.string ⟨#[113]⟩,.int .i64 0,.slice none 0 0,.int .i64 0] 71)).alloc (.cells #[.slice (some ⟨w.heap.size,0,none⟩) 1 1,.slice none 0 0,.slice (some ⟨w.heap.size + 1,0,none⟩) 1 1,.slice (some ⟨w.heap.size + 1 + 1 + 1,0,none⟩) 2 2,.int .i64 0] 27)
abbrev gT (w:World):Value:=.agg #[.slice (some ⟨w.heap.size,0,none⟩) 1 1,.slice none 0 0,.slice (some ⟨w.heap.size + 1,0,none⟩) 1 1,.slice (some ⟨w.heap.size + 1 + 1 + 1,0,none⟩) 2 2,.int .i64 0]
theorem alT {B:Nat} {a w:World} (h:Below B a w) (hB:B<=w.heap.size) (o:Obj):Below B a (w.alloc o)/\B<=(w.alloc o).heap.size:=⟨h.alloc hB o,by simp; omega⟩
theorem wT_below (w:World):Below w.heap.size w (wT w):=by
 have h1:=alT (Below.refl w.heap.size w) (Nat.le_refl _) (.cells #[.string ⟨#[97]⟩,.string ⟨#[]⟩,.bool false,.int .i64 0] 105)
 have h2:=alT h1.1 h1.2 (.cells #[.string ⟨#[83]⟩] 9)
 have h3:=alT h2.1 h2.2 (.cells #[.int .i64 0,.int .i64 (-1)] 61)
 have h4:=alT h3.1 h3.2 (.cells #[.string ⟨#[112]⟩,.int .i64 0,.slice (some ⟨w.heap.size + 1 + 1,0,none⟩) 2 2,.int .i64 0,.string ⟨#[113]⟩,.int .i64 0,.slice none 0 0,.int .i64 0] 71)
 exact (alT h4.1 h4.2 _).1
theorem heapT {w:World} {o o':Obj} {g:Nat} (h:w.heap[g]?=some o):(w.alloc o').heap[g]?=some o:=(Below.heap_alloc w o' g (ltQ h)).trans h
theorem newT (w:World) (o:Obj) {g:Nat} (h:w.heap.size=g):(w.alloc o).heap[g]?=some o:=by rw [<-h]; exact new_block w o
theorem wT_0 (w:World):(wT w).heap[w.heap.size]?=some (.cells #[.string ⟨#[97]⟩,.string ⟨#[]⟩,.bool false,.int .i64 0] 105):=heapT (heapT (heapT (heapT (new_block w _))))
theorem wT_1 (w:World):(wT w).heap[w.heap.size + 1]?=some (.cells #[.string ⟨#[83]⟩] 9):=heapT (heapT (heapT (newT _ _ (by simp))))
theorem wT_2 (w:World):(wT w).heap[w.heap.size + 1 + 1]?=some (.cells #[.int .i64 0,.int .i64 (-1)] 61):=heapT (heapT (newT _ _ (by simp)))
theorem wT_3 (w:World):(wT w).heap[w.heap.size + 1 + 1 + 1]?=some (.cells #[.string ⟨#[112]⟩,.int .i64 0,.slice (some ⟨w.heap.size + 1 + 1,0,none⟩) 2 2,.int .i64 0,.string ⟨#[113]⟩,.int .i64 0,.slice none 0 0,.int .i64 0] 71):=heapT (newT _ _ (by simp))
theorem wT_4 (w:World):(wT w).heap[w.heap.size + 1 + 1 + 1 + 1]?=some (.cells #[.slice (some ⟨w.heap.size,0,none⟩) 1 1,.slice none 0 0,.slice (some ⟨w.heap.size + 1,0,none⟩) 1 1,.slice (some ⟨w.heap.size + 1 + 1 + 1,0,none⟩) 2 2,.int .i64 0] 27):=newT _ _ (by simp)
theorem wT_size (w:World):(wT w).heap.size=w.heap.size + 1 + 1 + 1 + 1 + 1:=by unfold wT; simp
def rvT (w:World) (y:Nat):Nat->Value
 | 0=>.slice (some ⟨w.heap.size + 1 + 1,0,none⟩) 2 2
 | 1=>.slice none 0 0
 | _=>.slice (some ⟨y,0,none⟩) 1 1
theorem rights2 {w W:World} (h:W.heap[w.heap.size + 1 + 1]?=some (.cells #[.int .i64 0,.int .i64 (-1)] 61)):IntsAt W (.slice (some ⟨w.heap.size + 1 + 1,0,none⟩) 2 2) [0,-1]:=by
 refine ⟨⟨_,_,rfl,by decide,fun _=>⟨_,0,rfl,fun i hi=>?_⟩⟩,by decide⟩
 have:i=0\/i=1:=by have:i < 2:=hi; omega
 rcases this with rfl | rfl
 ·exact coQ h 0
 ·exact coQ h 1
theorem rights0 (W:World):IntsAt W (.slice none 0 0) []:=⟨⟨_,_,rfl,by decide,fun h=>absurd h (by decide)⟩,by decide⟩
theorem gram_of {w W:World} {G:GD} {pv:Value} {rv:Nat->Value} (hG:G.terms=[⟨#[97]⟩]/\G.over=[]/\G.sorts=[⟨#[83]⟩]/\G.start=0) (h0:W.heap[w.heap.size]?=some (.cells #[.string ⟨#[97]⟩,.string ⟨#[]⟩,.bool false,.int .i64 0] 105)) (h1:W.heap[w.heap.size + 1]?=some (.cells #[.string ⟨#[83]⟩] 9)) (hp:ProdsAt W pv G.prods rv) (hr:∀ i,i < G.prods.length->IntsAt W (rv i) (G.prods.getD i default).rs) (hc:∀ i a n c,rv i=.slice a n c->n<=c) :
  Gram W (.agg #[.slice (some ⟨w.heap.size,0,none⟩) 1 1,.slice none 0 0,.slice (some ⟨w.heap.size + 1,0,none⟩) 1 1,pv,.int .i64 0]) G:=by
 obtain ⟨e1,e2,e3,e4⟩:=hG
 refine ⟨.slice (some ⟨w.heap.size,0,none⟩) 1 1,.slice none 0 0,.slice (some ⟨w.heap.size + 1,0,none⟩) 1 1,pv,fun _ j=>if j=1 then .string ⟨#[]⟩ else if j=2 then .bool false else .int .i64 0,rv,by rw [e4],?_,?_,?_,hp,hr,fun i _ a n c=>hc i a n c⟩
 ·rw [e1]
  refine ⟨_,_,rfl,by decide,fun _=>⟨_,0,rfl,fun i hi=>?_⟩⟩
  obtain rfl:i=0:=by have:i < 1:=hi; omega
  exact ⟨coQ h0 0,coQ h0 1,coQ h0 2,coQ h0 3⟩
 ·rw [e2]; exact ⟨_,_,rfl,by decide,fun h=>absurd h (by decide)⟩
 ·rw [e3]
  refine ⟨_,_,rfl,by decide,fun _=>⟨_,0,rfl,fun i hi=>?_⟩⟩
  obtain rfl:i=0:=by have:i < 1:=hi; omega
  exact coQ h1 0
theorem rv_caps (w:World) (y:Nat):∀ i a n c,rvT w y i=.slice a n c->n<=c:=fun i a n c h=>by
 match i,h with
 | 0,h=>cases h; exact Nat.le_refl _
 | 1,h=>cases h; exact Nat.le_refl _
 | _ + 2,h=>cases h; exact Nat.le_refl _
theorem gT_at (w:World):Gram (wT w) (gT w) exT:=by
 refine gram_of (rv:=rvT w 0) ⟨rfl,rfl,rfl,rfl⟩ (wT_0 w) (wT_1 w) ⟨_,_,rfl,by decide,fun _=>⟨_,0,rfl,fun i hi=>?_⟩⟩ (fun i hi=>?_) (rv_caps w 0)
 ·have:i=0\/i=1:=by have:i < 2:=hi; omega
  rcases this with rfl | rfl
  ·exact ⟨coQ (wT_3 w) 0,coQ (wT_3 w) 1,coQ (wT_3 w) 2,coQ (wT_3 w) 3⟩
  ·exact ⟨coQ (wT_3 w) 4,coQ (wT_3 w) 5,coQ (wT_3 w) 6,coQ (wT_3 w) 7⟩
 ·have:i=0\/i=1:=by have:i < 2:=hi; omega
  rcases this with rfl | rfl
  ·exact rights2 (wT_2 w)
  ·exact rights0 _
def prU (w:World) (y:Nat):List Value:=[.string ⟨#[112]⟩,.int .i64 0,.slice (some ⟨w.heap.size + 1 + 1,0,none⟩) 2 2,.int .i64 0,.string ⟨#[113]⟩,.int .i64 0,.slice none 0 0,.int .i64 0] ++ [.string ⟨#[114]⟩,.int .i64 0,.slice (some ⟨y,0,none⟩) 1 1,.int .i64 0]
theorem gU_at {w W:World} {gX y KX:Nat} (h0:W.heap[w.heap.size]?=some (.cells #[.string ⟨#[97]⟩,.string ⟨#[]⟩,.bool false,.int .i64 0] 105)) (h1:W.heap[w.heap.size + 1]?=some (.cells #[.string ⟨#[83]⟩] 9)) (h2:W.heap[w.heap.size + 1 + 1]?=some (.cells #[.int .i64 0,.int .i64 (-1)] 61)) (hy:W.heap[y]?=some (.cells #[.int .i64 0] 61)) (hp:∀ j u,(prU w y)[j]?=some u->W.cell? ⟨gX,j,none⟩=some u) :
  Gram W (.agg #[.slice (some ⟨w.heap.size,0,none⟩) 1 1,.slice none 0 0,.slice (some ⟨w.heap.size + 1,0,none⟩) 1 1,.slice (some ⟨gX,0,none⟩) 3 KX,.int .i64 0]) exU:=by
 refine gram_of (rv:=rvT w y) ⟨rfl,rfl,rfl,rfl⟩ h0 h1 ⟨_,_,rfl,by decide,fun _=>⟨_,0,rfl,fun i hi=>?_⟩⟩ (fun i hi=>?_) (rv_caps w y)
 ·have:i=0\/i=1\/i=2:=by have:i < 3:=hi; omega
  rcases this with rfl | rfl | rfl
  ·exact ⟨hp 0 _ rfl,hp 1 _ rfl,hp 2 _ rfl,hp 3 _ rfl⟩
  ·exact ⟨hp 4 _ rfl,hp 5 _ rfl,hp 6 _ rfl,hp 7 _ rfl⟩
  ·exact ⟨hp 8 _ rfl,hp 9 _ rfl,hp 10 _ rfl,hp 11 _ rfl⟩
 ·have:i=0\/i=1\/i=2:=by have:i < 3:=hi; omega
  rcases this with rfl | rfl | rfl
  ·exact rights2 h2
  ·exact rights0 _
  ·refine ⟨⟨_,_,rfl,by decide,fun _=>⟨_,0,rfl,fun i hi=>?_⟩⟩,by decide⟩
   obtain rfl:i=0:=by have:i < 1:=hi; omega
   exact coQ hy 0
theorem exT_build {w w':World} {e:Ending} (h:BuildTP exT w e w'):Below w.heap.size w w'/\∃ A tv,e=.returned (.tuple #[tv,.int .i64 0])/\LA exT 4 A/\TabAt w' tv 4 2 (dS exT 4 A) (fun i=>nextX exT (iterB exT 4).nx i 1):=by
 obtain ⟨hb,h | ⟨_,n,h | ⟨h,A,hL,hc⟩⟩⟩:=h
 ·rw [X14.T_valid] at h; cases h.1
 ·exact (X14.Built.not X14.T_ok h.1).elim
 ·obtain rfl:=X14.Built.one h X14.T_ok
  rcases hc with ⟨h1,_⟩ | ⟨_,tv,rfl,h2⟩
  ·exact absurd (T_cl hL) h1
  ·exact ⟨hb,A,tv,rfl,hL,h2⟩
theorem exU_build {w w':World} {e:Ending} (h:BuildTP exU w e w'):Below w.heap.size w w'/\e=.returned (.tuple #[zeroTab,.int .i64 16]):=by
 obtain ⟨hb,h | ⟨_,n,h | ⟨h,A,hL,hc⟩⟩⟩:=h
 ·rw [X14.U_valid] at h; cases h.1
 ·exact (X14.Built.not X14.U_ok h.1).elim
 ·obtain rfl:=X14.Built.one h X14.U_ok
  rcases hc with ⟨_,h1⟩ | ⟨h1,_⟩
  ·exact ⟨hb,h1⟩
  ·have:=(U_cl hL).symm.trans h1
   cases this
theorem exU_clash {w w':World} {e:Ending} (h:ClashesP exU w e w'):Below w.heap.size w w'/\∃ o c,e=.returned (.slice o 1 c):=by
 obtain ⟨hb,h | ⟨_,n,h | ⟨h,v,A,rfl,hL,ho⟩⟩⟩:=h
 ·rw [X14.U_valid] at h; cases h.1
 ·exact (X14.Built.not X14.U_ok h.1).elim
 ·obtain rfl:=X14.Built.one h X14.U_ok
  have e:clX (cntS (deedsS exU (iterB exU 4).nx (cxB exU 4 (E0 exU) (F0 exU)).C A)) (exU.terms.length + 1) 4=[(1,1)]:=U_cl hL
  rw [e] at ho
  obtain ⟨o,c,rfl⟩:=ho.shape
  exact ⟨hb,o,c,rfl⟩
theorem exT_cells {w:World} {A:Pl->Nat} {tv:Value} (hL:LA exT 4 A) (h:TabAt w tv 4 2 (dS exT 4 A) (fun i=>nextX exT (iterB exT 4).nx i 1)):∃ d1 d2 dc no nc m1 m2 mc r1 r2 rc,tv=.agg #[.slice (some ⟨d1,d2,none⟩) 4 dc,.slice no 4 nc,.slice (some ⟨m1,m2,none⟩) 4 mc] /\
  w.cell? ⟨d1,d2,none⟩=some (.slice (some ⟨r1,r2,none⟩) 2 rc)/\w.cell? ⟨r1,r2,none⟩=some (.int .i64 1)/\w.cell? ⟨r1,r2 + 1,none⟩=some (.int .i64 1)/\w.cell? ⟨r1,r2 + 2,none⟩=some (.int .i64 2)/\w.cell? ⟨r1,r2 + 2 + 1,none⟩=some (.int .i64 1)/\w.cell? ⟨m1,m2,none⟩=some (.int .u64 9223372036854775809):=by
 obtain ⟨dv,nv,mv,rfl,h1,h2,h3⟩:=h
 obtain ⟨hone,hmay⟩:=T_one hL
 obtain ⟨no,nc,rfl,_⟩:=h2.len
 obtain ⟨o1,dc,rfl,_⟩:=id h1.len
 obtain ⟨d1,d2,u,rfl,a1,a2⟩:=h1.at_ (k:=0) (by omega)
 rw [hone] at a2
 obtain ⟨o2,rc,rfl,_⟩:=id a2.len
 obtain ⟨r1,r2,rfl,b1,b2⟩:=a2.at_ (k:=0) (x:=(1,1)) rfl
 obtain ⟨r1',r2',e,b3,b4⟩:=a2.at_ (k:=1) (x:=(2,1)) rfl
 cases e
 obtain ⟨o3,mc,rfl,_,hm⟩:=h3
 obtain ⟨m1,m2,rfl,hm2⟩:=hm (by simp)
 have hm3:w.cell? ⟨m1,m2 + 0,none⟩=some (S13.u64 (((List.range 4).map fun i=>mayX (dS exT 4 A i) 2 2).getD 0 0)):=hm2 0 (by simp)
 have hg:((List.range 4).map fun i=>mayX (dS exT 4 A i) 2 2).getD 0 0=9223372036854775809:=hmay
 rw [hg] at hm3
 have hl:((List.range 4).map fun i=>mayX (dS exT 4 A i) 2 2).length=4:=by simp
 refine ⟨d1,d2,dc,no,nc,m1,m2,mc,r1,r2,rc,by rw [hl],by simpa using a1,by simpa using b1,by simpa using b2,by simpa using b3,by simpa using b4,by rw [Nat.add_zero] at hm3; exact hm3⟩
theorem two_ints {W:World} {b:Nat} {x y:Int} (h:W.heap[b]?=some (.cells #[.int .i64 x,.int .i64 y] 3 (0,0))) (hx:-9223372036854775808<=x/\x<=9223372036854775807:=by decide) (hy:-9223372036854775808<=y/\y<=9223372036854775807:=by decide):IntsAt W (.slice (some ⟨b,0,none⟩) 2 2) [x,y]:=by
 refine ⟨⟨_,_,rfl,by simp,fun _=>⟨_,0,rfl,fun i hi=>?_⟩⟩,fun z hz=>?_⟩
 ·have:i=0\/i=1:=by have:i < 2:=hi; omega
  rcases this with rfl | rfl
  ·exact coQ h 0
  ·exact coQ h 1
 ·rcases List.mem_cons.1 hz with rfl | hz
  ·exact hx
  ·rw [List.mem_singleton.1 hz]; exact hy
set_option maxRecDepth 100000 in
set_option maxHeartbeats 16000000 in
theorem works16_any {Bt:Nat} (w:World) (ht:Tab Bt w) (hBt:Bt<=w.heap.size):Calls Tryz.prog 34 #[] w fun e w'=>e=.returned (.bool true)/\Below w.heap.size w w':=by
 have hB:=wT_below w
 have HG0:=hid (gT_at w)
 have HT0:=hid (ht.on (hB.mono hBt))
 unfold gT at HG0
 obtain ⟨w0,hw0⟩:∃ w0,w0=wT w:=⟨_,rfl⟩
 have HBK:=hid (And.intro (wT_0 w) (And.intro (wT_1 w) (And.intro (wT_2 w) (And.intro (wT_3 w) (wT_4 w)))))
 have HSZ:=hid (wT_size w)
 rw [<-hw0] at hB HG0 HT0 HBK HSZ
 have HB0:=hid hB
 have hsz:=hB.size
 have HS:=hid (show ∀ w',Below w0.heap.size w0 w'->w'.cell? ⟨w.heap.size + 1 + 1 + 1 + 1,0,none⟩=some (.slice (some ⟨w.heap.size,0,none⟩) 1 1)/\w'.cell? ⟨w.heap.size + 1 + 1 + 1 + 1,1,none⟩=some (.slice none 0 0)/\w'.cell? ⟨w.heap.size + 1 + 1 + 1 + 1,2,none⟩=some (.slice (some ⟨w.heap.size + 1,0,none⟩) 1 1)/\w'.cell? ⟨w.heap.size + 1 + 1 + 1 + 1,3,none⟩=some (.slice (some ⟨w.heap.size + 1 + 1 + 1,0,none⟩) 2 2)/\w'.cell? ⟨w.heap.size + 1 + 1 + 1 + 1,4,none⟩=some (.int .i64 0) from fun w' hC=>⟨cell_below hC (coQ HBK.out.2.2.2.2 0),cell_below hC (coQ HBK.out.2.2.2.2 1),cell_below hC (coQ HBK.out.2.2.2.2 2),cell_below hC (coQ HBK.out.2.2.2.2 3),cell_below hC (coQ HBK.out.2.2.2.2 4)⟩)
 obtain ⟨c0,c1,c2,c3,c4⟩:=HS.out w0 (Below.refl _ _)
 have KB:=hid (BuildT_any HG0.out HT0.out (Nat.le_trans hBt hsz))
 clear hB
 go_enter Tryz.func34,Tryz.ntmps34
 go_upto_region 2 with fail
 unfold wT at hw0
 rw [<-hw0]
 clear hw0
 go_wp2_with fail
 refine KB.out.mono ?_
 rintro e w1 hbp
 obtain ⟨hb1,A,tv,rfl,hL,htab⟩:=exT_build hbp
 have HTAB:=hid htab
 obtain ⟨d1,d2,dc,no,nc,m1,m2,mc,r1,r2,rc,rfl,y0,y1,y2,y3,y4,y5⟩:=exT_cells hL htab
 have HL:=hid hL
 have HY:=hid (show ∀ w',Below w1.heap.size w1 w'->w'.cell? ⟨d1,d2,none⟩=some (.slice (some ⟨r1,r2,none⟩) 2 rc)/\w'.cell? ⟨r1,r2,none⟩=some (.int .i64 1)/\w'.cell? ⟨r1,r2 + 1,none⟩=some (.int .i64 1)/\w'.cell? ⟨r1,r2 + 2,none⟩=some (.int .i64 2)/\w'.cell? ⟨r1,r2 + 2 + 1,none⟩=some (.int .i64 1)/\w'.cell? ⟨m1,m2,none⟩=some (.int .u64 9223372036854775809) from fun w' hC =>
  ⟨cell_below hC y0,cell_below hC y1,cell_below hC y2,cell_below hC y3,cell_below hC y4,cell_below hC y5⟩)
 have HC1:=hid hb1
 clear y0 y1 y2 y3 y4 y5 hL htab hbp c0 c1 c2 c3 c4 KB
 obtain ⟨W2,e2⟩:=nmQ (w1.alloc (.cells #[.slice none 0 0,.slice none 0 0,.slice none 0 0] 96))
 have n2:W2.heap[w1.heap.size]?=some (.cells #[.slice none 0 0,.slice none 0 0,.slice none 0 0] 96 (0,0)):=nbQ e2
 have vn0:W2.heap[w1.heap.size]?=some (.cells #[.slice none 0 0,.slice none 0 0,.slice none 0 0] 96 (0,0)):=n2
 have vc0:W2.cell? ⟨w1.heap.size,0,none⟩=some (.slice none 0 0):=coQ vn0 0
 have vf0:=foQ vn0 0
 obtain ⟨u1,ve0⟩:=nmQ (W2.setCell ⟨w1.heap.size,0,none⟩ (.slice (some ⟨d1,d2,none⟩) 4 dc))
 have vn1:u1.heap[w1.heap.size]?=some (.cells #[.slice (some ⟨d1,d2,none⟩) 4 dc,.slice none 0 0,.slice none 0 0] 96 (0,0)):=hsQ ve0 vn0
 have vc1:u1.cell? ⟨w1.heap.size,1,none⟩=some (.slice none 0 0):=coQ vn1 1
 have vf1:=foQ vn1 1
 obtain ⟨u2,ve1⟩:=nmQ (u1.setCell ⟨w1.heap.size,1,none⟩ (.slice no 4 nc))
 have vn2:u2.heap[w1.heap.size]?=some (.cells #[.slice (some ⟨d1,d2,none⟩) 4 dc,.slice no 4 nc,.slice none 0 0] 96 (0,0)):=hsQ ve1 vn1
 have vc2:u2.cell? ⟨w1.heap.size,2,none⟩=some (.slice none 0 0):=coQ vn2 2
 have vf2:=foQ vn2 2
 obtain ⟨u3,ve2⟩:=nmQ (u2.setCell ⟨w1.heap.size,2,none⟩ (.slice (some ⟨m1,m2,none⟩) 4 mc))
 have vn3:u3.heap[w1.heap.size]?=some (.cells #[.slice (some ⟨d1,d2,none⟩) 4 dc,.slice no 4 nc,.slice (some ⟨m1,m2,none⟩) 4 mc] 96 (0,0)):=hsQ ve2 vn2
 have hb2:Below w1.heap.size w1 u3:=by
  rw [<-ve2,<-ve1,<-ve0,<-e2]
  exact ((((Below.refl _ _).alloc (Nat.le_refl _) _).setCell (Nat.le_refl _) _).setCell (Nat.le_refl _) _).setCell (Nat.le_refl _) _
 have HB2:=hid hb2
 have HNT:=hid vn3
 have HC2:=hid (hb1.trans (hb2.mono hb1.size))
 have HE:=hid (show ∀ w',Below u3.heap.size u3 w'->w'.cell? ⟨w1.heap.size,0,none⟩=some (.slice (some ⟨d1,d2,none⟩) 4 dc)/\w'.cell? ⟨w1.heap.size,1,none⟩=some (.slice no 4 nc)/\w'.cell? ⟨w1.heap.size,2,none⟩=some (.slice (some ⟨m1,m2,none⟩) 4 mc) from fun w' hC=>⟨cell_below hC (coQ HNT.out 0),cell_below hC (coQ HNT.out 1),cell_below hC (coQ HNT.out 2)⟩)
 obtain ⟨b0,b1,b2⟩:=HE.out u3 (Below.refl _ _)
 obtain ⟨c0,c1,c2,c3,c4⟩:=HS.out u3 HC2.out
 obtain ⟨W3,e3⟩:=nmQ (u3.alloc (.cells #[.int .i64 0,.int .i64 0] 3))
 have n3:W3.heap[u3.heap.size]?=some (.cells #[.int .i64 0,.int .i64 0] 3 (0,0)):=nbQ e3
 have hb3:Below u3.heap.size u3 W3:=baQ e3
 have HC3:=hid (HC2.out.trans (hb3.mono HC2.out.size))
 have HX3:=hid hb3
 have HD3:=hid (HB2.out.trans (hb3.mono HB2.out.size))
 have K1:=hid (Run_any (l:=[0,0]) (HG0.out.below HC3.out) (HT0.out.on (HC3.out.mono (Nat.le_trans hBt hsz))) (Nat.le_trans hBt (Nat.le_trans hsz HC3.out.size)) X14.T_valid X14.T_ok HL.out (T_cl HL.out) (HTAB.out.below HD3.out) (two_ints n3) (by decide) (T_run1 HL.out))
 clear hb1 hb2 hb3 n2 vn0 vn1 vn2 vn3 n3
 go_wp2_with fail
 refine K1.out.mono ?_
 rintro e w4 ⟨rfl,hb4⟩
 have HC4:=hid (HC3.out.trans (hb4.mono HC3.out.size))
 have HX4:=hid (HX3.out.trans (hb4.mono HX3.out.size))
 have HD4:=hid (HD3.out.trans (hb4.mono HD3.out.size))
 clear b0 b1 b2 c0 c1 c2 c3 c4 K1 hb4 e3 e2 vc0 vf0 vc1 vf1 vc2 vf2 ve0 ve1 ve2
 obtain ⟨b0,b1,b2⟩:=HE.out w4 HX4.out
 obtain ⟨c0,c1,c2,c3,c4⟩:=HS.out w4 HC4.out
 obtain ⟨W5,e5⟩:=nmQ (w4.alloc (.cells #[.int .i64 0,.int .i64 1] 3))
 have n5:W5.heap[w4.heap.size]?=some (.cells #[.int .i64 0,.int .i64 1] 3 (0,0)):=nbQ e5
 have hb5:Below w4.heap.size w4 W5:=baQ e5
 have HC5:=hid (HC4.out.trans (hb5.mono HC4.out.size))
 have HX5:=hid (HX4.out.trans (hb5.mono HX4.out.size))
 have HD5:=hid (HD4.out.trans (hb5.mono HD4.out.size))
 have K2:=hid (Run_any (l:=[0,1]) (HG0.out.below HC5.out) (HT0.out.on (HC5.out.mono (Nat.le_trans hBt hsz))) (Nat.le_trans hBt (Nat.le_trans hsz HC5.out.size)) X14.T_valid X14.T_ok HL.out (T_cl HL.out) (HTAB.out.below HD5.out) (two_ints n5) (by decide) (T_run2 HL.out))
 clear hb5 n5
 go_wp2_with fail
 refine K2.out.mono ?_
 rintro e w6 ⟨rfl,hb6⟩
 have HC6:=hid (HC5.out.trans (hb6.mono HC5.out.size))
 have HX6:=hid (HX5.out.trans (hb6.mono HX5.out.size))
 have HD6:=hid (HD5.out.trans (hb6.mono HD5.out.size))
 clear b0 b1 b2 c0 c1 c2 c3 c4 K2 hb6 e5
 obtain ⟨c0,c1,c2,c3,c4⟩:=HS.out w6 HC6.out
 obtain ⟨W7,e7⟩:=nmQ (w6.alloc (.cells #[.int .i64 0] 61))
 have n7:W7.heap[w6.heap.size]?=some (.cells #[.int .i64 0] 61 (0,0)):=nbQ e7
 have hb7:Below w6.heap.size w6 W7:=baQ e7
 obtain ⟨W8,e8⟩:=nmQ (W7.alloc (.cells #[.string ⟨#[114]⟩,.int .i64 0,.slice (some ⟨w6.heap.size,0,none⟩) 1 1,.int .i64 0] 71))
 have n8:W8.heap[W7.heap.size]?=some (.cells #[.string ⟨#[114]⟩,.int .i64 0,.slice (some ⟨w6.heap.size,0,none⟩) 1 1,.int .i64 0] 71 (0,0)):=nbQ e8
 have hb8:Below W7.heap.size W7 W8:=baQ e8
 have hb68:=hb7.trans (hb8.mono hb7.size)
 have HC8:=hid (HC6.out.trans (hb68.mono HC6.out.size))
 have HX8:=hid (HX6.out.trans (hb68.mono HX6.out.size))
 have HD8:=hid (HD6.out.trans (hb68.mono HD6.out.size))
 have HY8:=hid ((hb8.block _ (ltQ n7)).trans n7)
 have HXC:=hid (show ∀ j u,([.string ⟨#[112]⟩,.int .i64 0,.slice (some ⟨w.heap.size + 1 + 1,0,none⟩) 2 2,.int .i64 0,.string ⟨#[113]⟩,.int .i64 0,.slice none 0 0,.int .i64 0]:List Value)[j]?=some u->W8.cell? ⟨w.heap.size + 1 + 1 + 1,0 + j,none⟩=some u from fun j u hj=>by
  rw [Nat.zero_add]
  refine cell_below HC8.out ?_
  rw [coQ HBK.out.2.2.2.1 j,<-hj,<-List.getElem?_toArray])
 have HQC:=hid (show ∀ j u,([.string ⟨#[114]⟩,.int .i64 0,.slice (some ⟨w6.heap.size,0,none⟩) 1 1,.int .i64 0]:List Value)[j]?=some u->W8.cell? ⟨W7.heap.size,j,none⟩=some u from fun j u hj=>by
  rw [coQ n8 j,<-hj,<-List.getElem?_toArray])
 have HQ1:=hid (show ∀ q ∈ ([.string ⟨#[114]⟩,.int .i64 0,.slice (some ⟨w6.heap.size,0,none⟩) 1 1,.int .i64 0]:List Value),q.oneCell'=true from fun q hq=>by
  simp only [List.mem_cons,List.not_mem_nil,or_false] at hq
  rcases hq with rfl | rfl | rfl | rfl <;> rfl)
 clear n7 n8 hb7 hb8 hb68
 go_wp2_with (refine wpList_push_full rfl (.tmp 59) (.tmp 62) 25 71 rfl (.agg #[.string ⟨#[]⟩,.int .i64 0,.slice none 0 0,.int .i64 0]) 4 56 Tryz.underlying25 info71 rfl (by decide) (w.heap.size + 1 + 1 + 1) 0 2 [.string ⟨#[112]⟩,.int .i64 0,.slice (some ⟨w.heap.size + 1 + 1,0,none⟩) 2 2,.int .i64 0,.string ⟨#[113]⟩,.int .i64 0,.slice none 0 0,.int .i64 0] rfl rfl HXC.out W7.heap.size rfl [.string ⟨#[114]⟩,.int .i64 0,.slice (some ⟨w6.heap.size,0,none⟩) 1 1,.int .i64 0] rfl HQC.out HQ1.out (by decide) ?_)
 intro KX w9 hb9 hp9
 have HP9:=hid hp9
 have HC9:=hid (HC8.out.trans (hb9.mono HC8.out.size))
 have HX9:=hid (HX8.out.trans (hb9.mono HX8.out.size))
 have HD9:=hid (HD8.out.trans (hb9.mono HD8.out.size))
 obtain ⟨gX,hgX⟩:=nmQ (W8.heap.size)
 rw [hgX] at HP9 ⊢
 have HGX:=hid hgX
 have n9:w9.heap[w.heap.size + 1 + 1 + 1 + 1]?=some (.cells #[.slice (some ⟨w.heap.size,0,none⟩) 1 1,.slice none 0 0,.slice (some ⟨w.heap.size + 1,0,none⟩) 1 1,.slice (some ⟨w.heap.size + 1 + 1 + 1,0,none⟩) 2 2,.int .i64 0] 27):=(HC9.out.block _ (by rw [HSZ.out]; omega)).trans HBK.out.2.2.2.2
 have f3:=foQ n9 3
 have k3:w9.cell? ⟨w.heap.size + 1 + 1 + 1 + 1,3,none⟩=some (.slice (some ⟨w.heap.size + 1 + 1 + 1,0,none⟩) 2 2):=coQ n9 3
 obtain ⟨w10,e10⟩:=nmQ (w9.setCell ⟨w.heap.size + 1 + 1 + 1 + 1,3,none⟩ (.slice (some ⟨gX,0,none⟩) 3 KX))
 have n10:w10.heap[w.heap.size + 1 + 1 + 1 + 1]?=some (.cells #[.slice (some ⟨w.heap.size,0,none⟩) 1 1,.slice none 0 0,.slice (some ⟨w.heap.size + 1,0,none⟩) 1 1,.slice (some ⟨gX,0,none⟩) 3 KX,.int .i64 0] 27 (0,0)):=hsQ e10 n9
 have hk10:∀ b,b ≠ w.heap.size + 1 + 1 + 1 + 1->w10.heap[b]?=w9.heap[b]?:=fun b hb=>by rw [<-e10]; exact Below.heap_setCell _ ⟨_,3,none⟩ _ b hb
 have HB10:=hid (show Below w.heap.size w w10 from by
  rw [<-e10]
  exact ((HB0.out.trans (HC9.out.mono HB0.out.size)).setCell (show w.heap.size<=w.heap.size + 1 + 1 + 1 + 1 by omega) _))
 have hold:∀ (b:Nat) (o:Obj),b ≠ w.heap.size + 1 + 1 + 1 + 1->w0.heap[b]?=some o->w10.heap[b]?=some o:=fun b o hb ho=>(hk10 b hb).trans ((HC9.out.block _ (ltQ ho)).trans ho)
 have h9s:w9.heap.size=w10.heap.size:=by rw [<-e10]; simp
 have hy10:w10.heap[w6.heap.size]?=some (.cells #[.int .i64 0] 61):=(hk10 _ (by have h1:=HC6.out.size; have h2:=HSZ.out; omega)).trans ((hb9.block _ (ltQ HY8.out)).trans HY8.out)
 have hgxne:gX ≠ w.heap.size + 1 + 1 + 1 + 1:=by rw [<-hgX]; have h1:=HC8.out.size; have h2:=HSZ.out; omega
 have HGU:=hid (gU_at (w:=w) (W:=w10) (gX:=gX) (y:=w6.heap.size) (KX:=KX) (hold _ _ (by omega) HBK.out.1) (hold _ _ (by omega) HBK.out.2.1) (hold _ _ (by omega) HBK.out.2.2.1) hy10 (fun j u hj=>by
  have h1:=HP9.out j u hj
  exact (World.cell?_of_block (a:=⟨gX,j,none⟩) (hk10 gX hgxne)).trans h1))
 have HT10:=hid (ht.on (HB10.out.mono hBt))
 have HTN:=hid (show ∀ w',Below w10.heap.size w10 w'->(w'.cell? ⟨w1.heap.size,0,none⟩=some (.slice (some ⟨d1,d2,none⟩) 4 dc)/\w'.cell? ⟨w1.heap.size,1,none⟩=some (.slice no 4 nc)/\w'.cell? ⟨w1.heap.size,2,none⟩=some (.slice (some ⟨m1,m2,none⟩) 4 mc)) from fun w' hC=>by
  have hne:w1.heap.size ≠ w.heap.size + 1 + 1 + 1 + 1:=by have h1:=HC1.out.size; have h2:=HSZ.out; omega
  obtain ⟨b0,b1,b2⟩:=HE.out w9 HX9.out
  exact ⟨cell_below hC ((World.cell?_of_block (a:=⟨w1.heap.size,0,none⟩) (hk10 _ hne)).trans b0),cell_below hC ((World.cell?_of_block (a:=⟨w1.heap.size,1,none⟩) (hk10 _ hne)).trans b1),cell_below hC ((World.cell?_of_block (a:=⟨w1.heap.size,2,none⟩) (hk10 _ hne)).trans b2)⟩)
 have HYN:=hid (show ∀ w',Below w10.heap.size w10 w'->w'.cell? ⟨d1,d2,none⟩=some (.slice (some ⟨r1,r2,none⟩) 2 rc)/\w'.cell? ⟨r1,r2,none⟩=some (.int .i64 1)/\w'.cell? ⟨r1,r2 + 1,none⟩=some (.int .i64 1)/\w'.cell? ⟨r1,r2 + 2,none⟩=some (.int .i64 2)/\w'.cell? ⟨r1,r2 + 2 + 1,none⟩=some (.int .i64 1)/\w'.cell? ⟨m1,m2,none⟩=some (.int .u64 9223372036854775809) from fun w' hC=>by
  obtain ⟨y0,y1,y2,y3,y4,y5⟩:=HY.out w9 HD9.out
  have hp0:w9.cell? ⟨w.heap.size + 1 + 1 + 1,0,none⟩=some (.string ⟨#[112]⟩):=cell_below HC9.out (coQ HBK.out.2.2.2.1 0)
  have far:∀ (b o:Nat) (u:Value),w9.cell? ⟨b,o,none⟩=some u->u ≠ (.slice (some ⟨w.heap.size + 1 + 1 + 1,0,none⟩) 2 2:Value)->w'.cell? ⟨b,o,none⟩=some u:=fun b o u hu hne=>by
   refine cell_below hC ?_
   rw [<-e10,World.cell?_setCell_other]
   ·exact hu
   ·intro he
    rw [<-he,k3] at hu
    exact hne (Option.some.inj hu).symm
  refine ⟨far _ _ _ y0 (fun he=>?_),far _ _ _ y1 (by simp),far _ _ _ y2 (by simp),far _ _ _ y3 (by simp),far _ _ _ y4 (by simp),far _ _ _ y5 (by simp)⟩
  injection he with he1 _ _
  injection he1 with he1
  injection he1 with he1 he2 _
  rw [he1,he2,hp0] at y1
  cases y1)
 obtain ⟨q0,q1,q2,q3,q4⟩:=(show ∀ w',Below w10.heap.size w10 w'->w'.cell? ⟨w.heap.size + 1 + 1 + 1 + 1,0,none⟩=some (.slice (some ⟨w.heap.size,0,none⟩) 1 1)/\w'.cell? ⟨w.heap.size + 1 + 1 + 1 + 1,1,none⟩=some (.slice none 0 0)/\w'.cell? ⟨w.heap.size + 1 + 1 + 1 + 1,2,none⟩=some (.slice (some ⟨w.heap.size + 1,0,none⟩) 1 1)/\w'.cell? ⟨w.heap.size + 1 + 1 + 1 + 1,3,none⟩=some (.slice (some ⟨gX,0,none⟩) 3 KX)/\w'.cell? ⟨w.heap.size + 1 + 1 + 1 + 1,4,none⟩=some (.int .i64 0) from fun w' hC=>⟨cell_below hC (coQ n10 0),cell_below hC (coQ n10 1),cell_below hC (coQ n10 2),cell_below hC (coQ n10 3),cell_below hC (coQ n10 4)⟩) w10 (Below.refl _ _)
 have HN10:=hid n10
 have KC:=hid (Clashes_any HGU.out HT10.out (Nat.le_trans hBt HB10.out.size))
 clear hb9 hp9 n9 n10 hk10 hold h9s hy10 hgxne
 go_wp2_with fail
 refine KC.out.mono ?_
 rintro e w11 hcp
 obtain ⟨hb11,clo,clc,rfl⟩:=exU_clash hcp
 have HC11:=hid hb11
 have HQ:=hid (show ∀ w',Below w10.heap.size w10 w'->w'.cell? ⟨w.heap.size + 1 + 1 + 1 + 1,0,none⟩=some (.slice (some ⟨w.heap.size,0,none⟩) 1 1)/\w'.cell? ⟨w.heap.size + 1 + 1 + 1 + 1,1,none⟩=some (.slice none 0 0)/\w'.cell? ⟨w.heap.size + 1 + 1 + 1 + 1,2,none⟩=some (.slice (some ⟨w.heap.size + 1,0,none⟩) 1 1)/\w'.cell? ⟨w.heap.size + 1 + 1 + 1 + 1,3,none⟩=some (.slice (some ⟨gX,0,none⟩) 3 KX)/\w'.cell? ⟨w.heap.size + 1 + 1 + 1 + 1,4,none⟩=some (.int .i64 0) from fun w' hC=>⟨cell_below hC (coQ HN10.out 0),cell_below hC (coQ HN10.out 1),cell_below hC (coQ HN10.out 2),cell_below hC (coQ HN10.out 3),cell_below hC (coQ HN10.out 4)⟩)
 clear q0 q1 q2 q3 q4 KC hcp hb11 e7 e8 e10 k3 f3
 obtain ⟨q0,q1,q2,q3,q4⟩:=HQ.out w11 HC11.out
 have KB2:=hid (BuildT_any (HGU.out.below HC11.out) (HT10.out.on (HC11.out.mono (Nat.le_trans hBt HB10.out.size))) (Nat.le_trans hBt (Nat.le_trans HB10.out.size HC11.out.size)))
 go_wp2_with fail
 refine KB2.out.mono ?_
 rintro e w12 hbp
 obtain ⟨hb12,rfl⟩:=exU_build hbp
 have HC12:=hid (HC11.out.trans (hb12.mono HC11.out.size))
 clear q0 q1 q2 q3 q4 KB2 hbp hb12
 obtain ⟨W13,e13⟩:=nmQ (w12.alloc (.cells #[.slice none 0 0,.slice none 0 0,.slice none 0 0] 96))
 have n13:W13.heap[w12.heap.size]?=some (.cells #[.slice none 0 0,.slice none 0 0,.slice none 0 0] 96 (0,0)):=nbQ e13
 have xn0:W13.heap[w12.heap.size]?=some (.cells #[.slice none 0 0,.slice none 0 0,.slice none 0 0] 96 (0,0)):=n13
 have xc0:W13.cell? ⟨w12.heap.size,0,none⟩=some (.slice none 0 0):=coQ xn0 0
 have xf0:=foQ xn0 0
 obtain ⟨z1,xe0⟩:=nmQ (W13.setCell ⟨w12.heap.size,0,none⟩ (.slice none 0 0))
 have xn1:z1.heap[w12.heap.size]?=some (.cells #[.slice none 0 0,.slice none 0 0,.slice none 0 0] 96 (0,0)):=hsQ xe0 xn0
 have xc1:z1.cell? ⟨w12.heap.size,1,none⟩=some (.slice none 0 0):=coQ xn1 1
 have xf1:=foQ xn1 1
 obtain ⟨z2,xe1⟩:=nmQ (z1.setCell ⟨w12.heap.size,1,none⟩ (.slice none 0 0))
 have xn2:z2.heap[w12.heap.size]?=some (.cells #[.slice none 0 0,.slice none 0 0,.slice none 0 0] 96 (0,0)):=hsQ xe1 xn1
 have xc2:z2.cell? ⟨w12.heap.size,2,none⟩=some (.slice none 0 0):=coQ xn2 2
 have xf2:=foQ xn2 2
 obtain ⟨z3,xe2⟩:=nmQ (z2.setCell ⟨w12.heap.size,2,none⟩ (.slice none 0 0))
 have xn3:z3.heap[w12.heap.size]?=some (.cells #[.slice none 0 0,.slice none 0 0,.slice none 0 0] 96 (0,0)):=hsQ xe2 xn2
 have hb13:Below w12.heap.size w12 z3:=by
  rw [<-xe2,<-xe1,<-xe0,<-e13]
  exact ((((Below.refl _ _).alloc (Nat.le_refl _) _).setCell (Nat.le_refl _) _).setCell (Nat.le_refl _) _).setCell (Nat.le_refl _) _
 have HC13:=hid (HC12.out.trans (hb13.mono HC12.out.size))
 obtain ⟨b0,b1,b2⟩:=HTN.out z3 HC13.out
 obtain ⟨y0,y1,y2,y3,y4,y5⟩:=HYN.out z3 HC13.out
 clear hb13 n13 xn0 xn1 xn2 xn3
 unfold zeroTab
 go_wp2_with fail
 go_ret
 exact ⟨rfl,HB10.out.trans (HC13.out.mono HB10.out.size)⟩
end Go.Proofs.YticmnfmijdgmbaaGreatDoor

namespace Go.Proofs.YticmnfmijdgmbaaGreatDoor
open Go Go.RowKit Go.Lib
open X14 (It exG closeX iterB BuiltOk BuiltMany rightX behX sortX)
open S13 (u64 bitN top E0 F0 Sub hasN)
open S16
open S13.X15 (Pl LeastA askX places cxB)
theorem build_cases {G:GD} {w w':World} {e:Ending} (h:BuildTP G w e w'):Below w.heap.size w w'/\((∃ er:Int,(er=1\/er=4\/er=16)/\e=.returned (.tuple #[zeroTab,.int .i64 er])) \/
  ∃ n A dv nv mv,validB G=true/\BuiltOk G n/\LA G n A/\clX (cntS (dS G n A)) (G.terms.length + 1) n=[]/\e=.returned (.tuple #[.agg #[dv,nv,mv],.int .i64 0])/\TabAt w' (.agg #[dv,nv,mv]) n (G.terms.length + 1) (dS G n A) (fun i=>nextX G (iterB G n).nx i G.sorts.length)):=by
 obtain ⟨hb,⟨_,h⟩ | ⟨hV,n,⟨_,h⟩ | ⟨hO,A,hL,⟨_,h⟩ | ⟨hno,tv,h,ht⟩⟩⟩⟩:=h
 ·exact ⟨hb,.inl ⟨1,.inl rfl,h⟩⟩
 ·exact ⟨hb,.inl ⟨4,.inr (.inl rfl),h⟩⟩
 ·exact ⟨hb,.inl ⟨16,.inr (.inr rfl),h⟩⟩
 ·obtain ⟨dv,nv,mv,rfl,_⟩:=id ht
  exact ⟨hb,.inr ⟨n,A,dv,nv,mv,hV,hO,hL,hno,h,ht⟩⟩
theorem tab_parts {w:World} {dv nv mv:Value} {n m:Nat} {D:Nat->Nat->List It} {Nx:Nat->List Int} (h:TabAt w (.agg #[dv,nv,mv]) n m D Nx):∃ dvo dvc nvo nvc mvo mvc,dv=.slice dvo n dvc/\nv=.slice nvo n nvc/\mv=.slice mvo n mvc /\
  RowsAt w dv n (fun i u=>ItemsAt w u (onlyX (D i) m m))/\RowsAt w nv n (fun i u=>IntsAt w u (Nx i))/\U64s w mv ((List.range n).map fun i=>mayX (D i) m m):=by
 obtain ⟨dv,nv,mv,e,h1,h2,h3⟩:=h
 cases e
 obtain ⟨a,b,e1,_⟩:=h1.len
 obtain ⟨c,d,e2,_⟩:=h2.len
 obtain ⟨f,g,e3,_⟩:=id h3
 have hl:((List.range n).map fun i=>mayX (D i) m m).length=n:=by simp
 rw [hl] at e3
 exact ⟨a,b,c,d,f,g,e1,e2,e3,h1,h2,h3⟩
theorem runs_some {G:GD} {n:Nat} {A:Pl->Nat} (hV:validB G=true) (hO:BuiltOk G n) (hL:LA G n A) (hno:clX (cntS (dS G n A)) (G.terms.length + 1) n=[]) (l:List Int):∃ b r,LR.Runs (mG G n (dS G n A)) (fun t=>0<=t/\t < (G.terms.length:Int)) [0] l b r:=
 LR.runs_all (machine_ok hV hO hL (fun i k hi hk=>clX_none hno i k hi (by omega))) (fun _ _ _ _=>trivial) l .base
end Go.Proofs.YticmnfmijdgmbaaGreatDoor
