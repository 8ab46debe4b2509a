import Derived.Below
import Derived.Deep.RegionHeld
import Derived.Lib.Builder
import Derived.Lib.Hide
import Derived.OrdersHeld
import Derived.OwnWalk
import Derived.StillTail
import Derived.Test.YticmnfmijdgmbaaGreatDoorProg
import Derived.WalkKit
import Derived.WalkSpells
set_option linter.all false
set_option maxRecDepth 100000
set_option maxHeartbeats 1000000
namespace Go.Proofs
open Go Go.RowKit Go.Lib
universe vQ
theorem ai {α:Sort vQ}(a:α):∃ x,a=x:=⟨a,rfl⟩
theorem dK {w r:World}{g i:Nat}{cs:Array Value}{t:TypeId}{v:Value}(e:w.setCell ⟨g,i,none⟩ v=r)(h:w.heap[g]?=some (.cells cs t (0,0))):r.heap[g]?=some (.cells (cs.setIfInBounds i v) t (0,0)):=e▸heap_setCell_same w g i cs t v h
theorem dO {w r:World}{o:Obj}(e:w.alloc o=r):r.heap[w.heap.size]?=some o:=e▸heap_alloc_new _ _
theorem dM {w r:World}{o:Obj}(e:w.alloc o=r):Below w.heap.size w r:=e▸(Below.refl _ _).alloc (Nat.le_refl _) o
theorem pW {w r:World}(e:w.drew=r):Below w.heap.size w r:=e▸(Below.refl _ _).drew
theorem dZ {α:Type vQ}{a:Array α}{i:Nat}{x:α}(h:a[i]?=some x):i<a.size:=(Array.getElem?_eq_some_iff.1 h).1
theorem ak {w:World}{b:Nat}{cs:Array Value}{T:TypeId}{fr:Nat×Nat}(hb:w.heap[b]?=some (.cells cs T fr))(j:Nat):w.cell? ⟨b,j,none⟩=cs[j]?:=Lib.cell_of_heap hb j
theorem bY {w:World}{b:Nat}{cs:Array Value}{T:TypeId}(hb:w.heap[b]?=some (.cells cs T (0,0)))(j:Nat):w.frozen? ⟨b,j,none⟩=false:=Lib.frozen_of_heap hb j
theorem dL {α:Type vQ}(l:List α)(i:Nat)(a:α):l.getD i a=l[i]?.getD a:=List.getD_eq_getElem?_getD ..
theorem dH {α:Type vQ}{l:List α}{i:Nat}(h:i<l.length):l[i]?=some l[i]:=List.getElem?_eq_getElem h
theorem cells5 {w:World}{b:Nat}{a0 a1 a2 a3 a4:Value}{t:TypeId}{f:Nat×Nat}(h:w.heap[b]?=some (.cells #[a0,a1,a2,a3,a4] t f)):w.cell? ⟨b,0,none⟩=some a0 ∧ w.cell? ⟨b,1,none⟩=some a1 ∧ w.cell? ⟨b,2,none⟩=some a2 ∧ w.cell? ⟨b,3,none⟩=some a3 ∧ w.cell? ⟨b,4,none⟩=some a4:=
  ⟨Lib.cell_of_heap h 0,Lib.cell_of_heap h 1,Lib.cell_of_heap h 2,Lib.cell_of_heap h 3,Lib.cell_of_heap h 4⟩
theorem _root_.Go.RowKit.Hid.o {p:Prop}(h:RowKit.Hid p):p:=h.out
theorem fJ {w a b:World}(h:RowKit.Hid (Below w.heap.size w a))(k:Below a.heap.size a b):RowKit.Hid (Below w.heap.size w b):=hid (h.out.trans (k.mono h.out.size))
abbrev aj (w w':World):=Below w.heap.size w w'
abbrev ay (w:World)(b o:Nat)(v:Value):Prop:=w.cell? ⟨b,o,none⟩=some v
abbrev bJ:=@Nat.le_refl
abbrev eX:=@Nat.le_trans
abbrev dA:=@decide_eq_false
abbrev eP:=@decide_eq_true
abbrev eH:=@Below.refl
end Go.Proofs
namespace Go.Proofs.YticmnfmijdgmbaaGreatDoor
open Go
section
variable {P:Program}{ops:Array Oper}{Q:Exit->Act->World->Prop}{md:Region.Mode}{S:World->Prop}{n:Nat}
def pY (P:Program)(md:Region.Mode)(ops:Array Oper)(Q:Exit->Act->World->Prop)(S:World->Prop)(n:Nat):Nat->Array Bool->Act->World->Prop
 | 0,listed,a,w=>Region.ready md ops listed=[]/\Q .normal a w
 | fuel+1,listed,a,w =>
  (Region.ready md ops listed=[]->Q .normal a w) /\
  ∀ i∈Region.ready md ops listed,wpOp P ops Q i (fun a' w'=>(i<n->S w')/\pY P md ops Q S n fuel (listed.setIfInBounds i true) a' w') a w
theorem Eb:∀ (fuel:Nat)(listed:Array Bool)(a:Act)(w:World),pY P md ops Q S n fuel listed a w->wpAny P md ops Q fuel listed a w
 | 0,_,_,_,h=>h
 | fuel+1,_,_,_,h=>⟨h.1,fun i hi=>wpOp_mono (fun a' w' h'=>Eb fuel _ a' w' h'.2) (h.2 i hi)⟩
theorem Fz {i:Nat}{oi:Oper}{v:Value}(hi:ops[i]?=some oi)(hsel:∀ (j:Nat) (o:Oper) cs b,ops[j]?=some o->o.op≠.select cs b)
  (hs:Region.sinkB md ops n=true) (hc:Region.chainB md ops n=true) (hn:n<ops.size) (hin:i<n)
  (hQ:∀ c a w,Q (.panic c) (a.put oi.dst v) w->Q (.panic c) a w) :
  ∀ (fuel:Nat) (listed:Array Bool) (a:Act) (w:World),HeadInv md ops n listed ->
   (∀ j oj,ops[j]?=some oj->j≠i->listed.getD j true=false->(∀ e∈oj.after,Region.binds md e=true->e.on≠i)->oi.apart ops oj=true) ->
   i∈Region.ready md ops listed->YieldsIf P ops S oi v a->S w ->
   pY P md ops Q S n fuel (listed.setIfInBounds i true) (a.put oi.dst v) w->pY P md ops Q S n (fuel+1) listed a w:=by
 intro fuel;induction fuel with
 | zero =>
  intro listed a w _ _ hr hy hS H;refine⟨fun h=>(by rw[h]at hr;cases hr),fun j hj=>?_⟩;by_cases hji:j=i
  ·subst hji;exact hy.wpOp hi hS ⟨fun _=>hS,H⟩
  ·have:=ready_mono hj hji;rw[H.1]at this;cases this
 | succ fuel ih =>
  intro listed a w inv hfree hr hy hS H;have hun:=(mem_ready.1 hr).1;refine⟨fun h=>(by rw[h]at hr;cases hr),fun j hj=>?_⟩;have hjn:j<n:=by
   rcases Nat.lt_or_ge j n with h | h
   ·exact h
   ·exact absurd hj (tail_waits hs hc hn inv _ i rfl hin hun j h)
  by_cases hji:j=i
  ·subst hji;exact hy.wpOp hi hS ⟨fun _=>hS,H⟩
  ·have h1:=H.2 j (ready_mono hj hji);obtain⟨hjun,oj,hoj,hall⟩:=mem_ready.1 hj;have hnot:∀ e∈oj.after,Region.binds md e=true->e.on≠i:=fun e he hb heq=>by
    have h1:=hall e he hb;rw[heq,getD_both hun]at h1;cases h1
   have h2:=wpOp_putIf hoj (hfree j oj hoj hji hjun hnot) (fun cs b=>hsel i oi cs b hi) (fun cs b=>hsel j oj cs b hoj) hQ hy h1;have hfree':∀ k ok,ops[k]?=some ok->k≠i->(listed.setIfInBounds j true).getD k true=false ->
     (∀ e∈ok.after,Region.binds md e=true->e.on≠i)->oi.apart ops ok=true:=fun k ok hk hki hun hno=>by
    refine hfree k ok hk hki ?_ hno;by_cases hjk:j=k
    ·subst hjk;exact hjun
    ·rw[getD_set_ne true hjk]at hun;exact hun
   refine wpOp_mono (fun a' w' h3=>⟨h3.2.1,ih (listed.setIfInBounds j true) a' w' (inv.set hj hjn) hfree' (ready_mono hr (Ne.symm hji)) h3.1 (h3.2.1 hjn) ?_⟩) h2;rw[Array.setIfInBounds_comm _ _ hji];exact h3.2.2
theorem kR {i:Nat}{oi:Oper}{v:Value}{fuel:Nat}{listed:Array Bool}{a:Act}{w:World}(hi:ops[i]?=some oi)
  (hs:Region.noSelect ops=true) (hk:Region.sinkB md ops n=true) (hc:Region.chainB md ops n=true) (hn:n<ops.size) (hin:i<n)
  (hf:Region.free md ops listed i=true) (hr:(Region.ready md ops listed).contains i=true)
  (hQ:∀ c a w,Q (.panic c) (a.put oi.dst v) w->Q (.panic c) a w) (hy:YieldsIf P ops S oi v a) (hS:S w) (inv:HeadInv md ops n listed)
  (h:HeadInv md ops n (listed.setIfInBounds i true)->pY P md ops Q S n fuel (listed.setIfInBounds i true) (a.put oi.dst v) w):pY P md ops Q S n (fuel+1) listed a w:=
 Fz hi (Region.noSelect_spec hs) hk hc hn hin hQ fuel listed a w inv (Region.free_spec hi hf) (by simpa using hr) hy hS (h (inv.set (by simpa using hr) hin))
theorem Ec {i:Nat}{o:Oper}{fuel:Nat}{listed:Array Bool}{a:Act}{w:World}(hr:Region.ready md ops listed=[i])(ho:ops[i]?=some o)
  (h:∀ K':Act->World->Prop,Shut (∀ a w,(i<n->S w)->pY P md ops Q S n fuel (listed.setIfInBounds i true) a w->K' a w)->if Region.wanted o (yielded ops a.tmps)=true then Oper.wp P o a w K' Q else K' (a.put o.dst undef) w) :
  pY P md ops Q S n (fuel+1) listed a w:=by
 refine⟨fun h0=>(by rw[h0]at hr;cases hr),fun j hj=>?_⟩;rw[hr]at hj;obtain rfl:j=i:=by simpa using hj
 exact wpOp_step ho (fun K' hK=>h K' (fun a w h1 h2=>hK a w ⟨h1,h2⟩))
theorem aQ {listed:Array Bool}{a:Act}{w:World}(hr:Region.ready md ops listed=[])(h:Q .normal a w) :
  ∀ fuel,pY P md ops Q S n fuel listed a w
 | 0=>⟨hr,h⟩
 | _+1=>⟨fun _=>h,by rw[hr];simp⟩
theorem inv_start (md:Region.Mode)(ops:Array Oper)(n:Nat):HeadInv md ops n (Array.replicate ops.size false):=by
 refine⟨by simp,fun j oj _ hl=>?_,fun t _ ht=>by simp[ht]⟩;rw[getD_replicate_false]at hl;cases hl
theorem aW {id:Nat}{a:Act}{w:World}(n:Nat)(S:World->Prop)(hm:P.follows .mixedOrders=true)(hS:S w.drew)
  (h:HeadInv .any ops n (Array.replicate ops.size false)->S w.drew->pY P .any ops Q S n ops.size (Array.replicate ops.size false) a w.drew):(Code.region id ops true).wp P Q a w:=
 wp_region_any hm (Eb _ _ _ _ (h (inv_start _ _ _) hS))
end
theorem I9 {P:Program}{ops:Array Oper}{Q:Exit->Act->World->Prop}{md:Region.Mode}{S:World->Prop}{n i:Nat}{o:Oper}{fuel:Nat}{listed:Array Bool}{a:Act}{w:World}
  (hr:Region.ready md ops listed=[i]) (ho:ops[i]?=some o) (hin:i<n) (inv:HeadInv md ops n listed)
  (h:HeadInv md ops n (listed.setIfInBounds i true)->∀ K':Act->World->Prop,Shut (∀ a w,S w->pY P md ops Q S n fuel (listed.setIfInBounds i true) a w->K' a w)->if Region.wanted o (yielded ops a.tmps)=true then Oper.wp P o a w K' Q else K' (a.put o.dst undef) w) :
  pY P md ops Q S n (fuel+1) listed a w:=
 Ec hr ho fun K' hK=>h (inv.set (by rw[hr];exact List.mem_cons_self) hin) K' fun a w h1 h2=>hK a w (fun _=>h1) h2
universe u
theorem bP {α:Type u}(l:List α)(i:Nat)(a:α):l.toArray.setIfInBounds i a=(l.set i a).toArray:=List.setIfInBounds_toArray ..
theorem bQ {α:Type u}{x a:α}{l:List α} : (x::l).set 0 a=a::l:=rfl
theorem bK {α:Type u}{x a:α}{l:List α}{n:Nat} : (x::l).set (n+1) a=x::l.set n a:=rfl
def plainT:Op->Bool
 | .move _=>true
 | .assign _=>true
 | .pick ..=>true
 | .load ..=>true
 | .nilCheck _=>true
 | .binOp ..=>true
 | .unOp ..=>true
 | .convert ..=>true
 | .fieldAddr ..=>true
 | .field ..=>true
 | .indexAddr ..=>true
 | .index ..=>true
 | .extract ..=>true
 | .build ..=>true
 | .call c=>match c.callee with
  | .builtin .len=>true
  | _=>false
 | _=>false
def nthT:List Bool->Nat->Bool
 | [],_=>true
 | b::_,0=>b
 | _::l,k+1=>nthT l k
def waitT (listed:List Bool):List Edge->Bool
 | []=>true
 | e::l=>match !Region.binds .any e || nthT listed e.on with
  | true=>waitT listed l
  | false=>false
def Gv (listed:List Bool)(n:Nat):List Oper->Nat->Option (Nat×Oper)
 | [],_=>none
 | o::l,i=>match !nthT listed i && (plainT o.op && (waitT listed o.after.toList && Nat.blt i n))with
  | true=>some (i,o)
  | false=>Gv listed n l (i+1)
theorem zH {listed:List Bool}{n:Nat} : ∀ {l:List Oper}{k i:Nat}{o:Oper},Gv listed n l k=some (i,o)->∃ j,i=k+j/\l[j]?=some o
 | [],_,_,_,h=>by cases h
 | x::l,k,i,o,h=>by
  unfold Gv at h;split at h
  ·injection h with h;injection h with h1 h2;exact⟨0,h1.symm,by rw[<-h2];rfl⟩
  ·obtain⟨j,h1,h2⟩:=zH h;exact⟨j+1,by omega,by simpa using h2⟩
section
variable {P:Program}{ops:Array Oper}{Q:Exit->Act->World->Prop}{S:World->Prop}{n:Nat}
theorem aF {i:Nat}{oi:Oper}{v:Value}{fuel:Nat}{listed:Array Bool}{a:Act}{w:World}(hp:Gv listed.toList n ops.toList 0=some (i,oi))
  (hz:(Region.noSelect ops && (Region.sinkB .any ops n && (Region.chainB .any ops n && (Nat.blt n ops.size && (Nat.blt i n && (Region.free .any ops listed i && (Region.ready .any ops listed).contains i))))))=true)
  (hQ:∀ c a w,Q (.panic c) (a.put oi.dst v) w->Q (.panic c) a w) (hy:YieldsIf P ops S oi v a) (hS:S w) (inv:HeadInv .any ops n listed)
  (h:HeadInv .any ops n (listed.setIfInBounds i true)->pY P .any ops Q S n fuel (listed.setIfInBounds i true) (a.put oi.dst v) w):pY P .any ops Q S n (fuel+1) listed a w:=by
 simp only[Bool.and_eq_true]at hz;obtain⟨h1,h2,h3,h4,h5,h6,h7⟩:=hz;obtain⟨j,e,hj⟩:=zH hp;have hi:ops[i]?=some oi:=by
  rw[e,Nat.zero_add,<-Array.getElem?_toList];exact hj
 exact kR hi h1 h2 h3 (by simpa using h4) (by simpa using h5) h6 h7 hQ hy hS inv h
end
def nthO:List Oper->Nat->Option Oper
 | [],_=>none
 | o::_,0=>some o
 | _::l,k+1=>nthO l k
theorem xY:∀ {l:List Oper}{k:Nat}{o:Oper},nthO l k=some o->l[k]?=some o
 | [],_,_,h=>by cases h
 | _::_,0,_,h=>h
 | _::l,k+1,_,h=>by rw[List.getElem?_cons_succ];exact xY (l:=l) (k:=k) h
section
variable {P:Program}{ops:Array Oper}{Q:Exit->Act->World->Prop}{S:World->Prop}{n i:Nat}{o:Oper}{fuel:Nat}{listed:Array Bool}{a:Act}{w:World}
theorem fQ (ho:nthO ops.toList i=some o)(hr:Region.ready .any ops listed=[i])(h:∀ K':Act->World->Prop,Shut (∀ a w,(i<n->S w)->pY P .any ops Q S n fuel (listed.setIfInBounds i true) a w->K' a w)->if Region.wanted o (yielded ops a.tmps)=true then Oper.wp P o a w K' Q else K' (a.put o.dst undef) w) :
  pY P .any ops Q S n (fuel+1) listed a w:=Ec hr (by rw[<-Array.getElem?_toList];exact xY ho) h
theorem eu (ho:nthO ops.toList i=some o)(hr:Region.ready .any ops listed=[i])(hin:i<n)(inv:HeadInv .any ops n listed)
  (h:HeadInv .any ops n (listed.setIfInBounds i true)->∀ K':Act->World->Prop,Shut (∀ a w,S w->pY P .any ops Q S n fuel (listed.setIfInBounds i true) a w->K' a w)->if Region.wanted o (yielded ops a.tmps)=true then Oper.wp P o a w K' Q else K' (a.put o.dst undef) w) :
  pY P .any ops Q S n (fuel+1) listed a w:=I9 hr (by rw[<-Array.getElem?_toList];exact xY ho) hin inv h
end
open Go Go.RowKit Go.Lib
def eU (v:Value)(n:Nat)(p:Nat->Nat->Nat->Prop):Prop:=
 ∃ a cap,v=.slice a n cap/\n<=9223372036854775807/\(0<n->∃ b off,a=some ⟨b,off,none⟩/\∀ i,i<n->p i b off)
theorem eU.mono {v:Value}{n:Nat}{p q:Nat->Nat->Nat->Prop}(h:eU v n p)(hpq:∀ i b off,p i b off->q i b off):eU v n q:=by
 obtain⟨a,cap,rfl,hn,h⟩:=h;refine⟨a,cap,rfl,hn,fun h0=>?_⟩;obtain⟨b,off,rfl,hc⟩:=h h0;exact⟨b,off,rfl,fun i hi=>hpq _ _ _ (hc i hi)⟩
theorem cell_below {w w':World}{p:Addr}{v:Value}(hb:Below w.heap.size w w')(h:w.cell? p=some v):w'.cell? p=some v:=
 (hb.cell (p:=p) (World.block_lt_of_cell? w _ h)).trans h
structure PD where
 lab:ByteArray
 sort:Int
 rs:List Int
 cls:Int
structure GD where
 terms:List ByteArray
 over:List (Int×Int)
 sorts:List ByteArray
 prods:List PD
 start:Int
instance:Inhabited PD:=⟨⟨ByteArray.empty,0,[],0⟩⟩
def dw (w:World)(v:Value)(l:List Int):Prop:=eU v l.length (fun i b off=>w.cell? ⟨b,off+i,none⟩=some (.int .i64 (l.getD i 0)))/\∀ x∈l,-9223372036854775808<=x/\x<=9223372036854775807
def yM (w:World)(v:Value)(l:List ByteArray):Prop:=eU v l.length (fun i b off=>w.cell? ⟨b,off+i,none⟩=some (.string (l.getD i ByteArray.empty)))
def uD (w:World)(v:Value)(l:List ByteArray)(tf:Nat->Nat->Value):Prop:=
 eU v l.length (fun i b off=>w.cell? ⟨b,off+i*4,none⟩=some (.string (l.getD i ByteArray.empty))/\w.cell? ⟨b,off+i*4+1,none⟩=some (tf i 1)/\w.cell? ⟨b,off+i*4+2,none⟩=some (tf i 2)/\w.cell? ⟨b,off+i*4+3,none⟩=some (tf i 3))
def xw (w:World)(v:Value)(l:List (Int×Int)):Prop:=
 eU v l.length (fun i b off=>w.cell? ⟨b,off+i*2,none⟩=some (.int .i64 (l.getD i (0,0)).1)/\w.cell? ⟨b,off+i*2+1,none⟩=some (.int .i64 (l.getD i (0,0)).2))
def rJ (w:World)(v:Value)(l:List PD)(rv:Nat->Value):Prop:=
 eU v l.length (fun i b off=>w.cell? ⟨b,off+i*4,none⟩=some (.string (l.getD i default).lab)/\w.cell? ⟨b,off+i*4+1,none⟩=some (.int .i64 (l.getD i default).sort) /\
  w.cell? ⟨b,off+i*4+2,none⟩=some (rv i)/\w.cell? ⟨b,off+i*4+3,none⟩=some (.int .i64 (l.getD i default).cls))
structure nJ (w:World) (gv:Value) (G:GD) (tv ov sv pv:Value) (tf:Nat->Nat->Value) (rv:Nat->Value):Prop where
 eq:gv=.agg #[tv,ov,sv,pv,.int .i64 G.start]
 terms:uD w tv G.terms tf
 over:xw w ov G.over
 sorts:yM w sv G.sorts
 prods:rJ w pv G.prods rv
 rights:∀ i,i<G.prods.length->dw w (rv i) (G.prods.getD i default).rs
 caps:∀ i,i<G.prods.length->∀ a n c,rv i=.slice a n c->n<=c
theorem dw.mono {w w':World}{v:Value}{l:List Int}(h:dw w v l)(hb:Below w.heap.size w w'):dw w' v l:=
 ⟨eU.mono h.1 fun _ _ _ h=>cell_below hb h,h.2⟩
theorem yM.mono {w w':World}{v:Value}{l:List ByteArray}(h:yM w v l)(hb:Below w.heap.size w w'):yM w' v l:=
 eU.mono h fun _ _ _ h=>cell_below hb h
theorem uD.mono {w w':World}{v:Value}{l:List ByteArray}{tf:Nat->Nat->Value}(h:uD w v l tf)(hb:Below w.heap.size w w'):uD w' v l tf:=
 eU.mono h fun _ _ _ ⟨h1,h2,h3,h4⟩=>⟨cell_below hb h1,cell_below hb h2,cell_below hb h3,cell_below hb h4⟩
theorem xw.mono {w w':World}{v:Value}{l:List (Int×Int)}(h:xw w v l)(hb:Below w.heap.size w w'):xw w' v l:=
 eU.mono h fun _ _ _ ⟨h1,h2⟩=>⟨cell_below hb h1,cell_below hb h2⟩
theorem rJ.mono {w w':World}{v:Value}{l:List PD}{rv:Nat->Value}(h:rJ w v l rv)(hb:Below w.heap.size w w'):rJ w' v l rv:=
 eU.mono h fun _ _ _ ⟨h1,h2,h3,h4⟩=>⟨cell_below hb h1,cell_below hb h2,cell_below hb h3,cell_below hb h4⟩
theorem nJ.mono {w w':World}{gv:Value}{G:GD}{tv ov sv pv:Value}{tf:Nat->Nat->Value}{rv:Nat->Value}(h:nJ w gv G tv ov sv pv tf rv)(hb:Below w.heap.size w w'):nJ w' gv G tv ov sv pv tf rv:=
 ⟨h.eq,h.terms.mono hb,h.over.mono hb,h.sorts.mono hb,h.prods.mono hb,fun i hi=>(h.rights i hi).mono hb,h.caps⟩
theorem gU {w:World}{gv:Value}{G:GD}{tv ov sv pv:Value}{tf:Nat->Nat->Value}{rv:Nat->Value}(h:nJ w gv G tv ov sv pv tf rv) :
  ∃ W1 B,W1=w.alloc (.cells #[tv,ov,sv,pv,.int .i64 G.start] 27)/\B=w.heap.size/\W1.cell? ⟨B,0,none⟩=some tv/\W1.cell? ⟨B,1,none⟩=some ov/\W1.cell? ⟨B,2,none⟩=some sv /\
   W1.cell? ⟨B,3,none⟩=some pv/\W1.cell? ⟨B,4,none⟩=some (.int .i64 G.start)/\nJ W1 gv G tv ov sv pv tf rv/\Below w.heap.size w W1/\w.heap.size<=W1.heap.size:=by
 have hb:Below w.heap.size w (w.alloc (.cells #[tv,ov,sv,pv,.int .i64 G.start] 27)):=(Below.refl _ _).alloc (Nat.le_refl _) _;refine⟨_,_,rfl,rfl,?_,?_,?_,?_,?_,h.mono hb,hb,by simp⟩<;>(rw[World.cell?_alloc_mark];rfl)
def fewG (G:GD):Prop:=(∀ k,k<G.prods.length->k<15->(G.prods.getD k default).rs.length<=12)/\G.terms.length<=10/\G.sorts.length<=8/\G.prods.length<=14/\G.over.length<=30
instance (G:GD):Decidable (fewG G):=inferInstanceAs (Decidable (_/\_))
theorem few_any {G:GD}{gv tv ov sv pv:Value}{tf:Nat->Nat->Value}{rv:Nat->Value}{w:World}(h:nJ w gv G tv ov sv pv tf rv) :
  Calls Tryz.prog 44 #[gv] w fun e w'=>e=.returned (.bool (decide (fewG G)))/\Below w.heap.size w w':=by
 obtain⟨W1,B,hW1,hB,c0,c1,c2,c3,c4,hG,hb,hsz⟩:=gU h;obtain⟨rfl,ht,ho,hs,hp,hr,_⟩:=hG;obtain⟨ta,tc,rfl,htn,ht⟩:=ht;obtain⟨oa,oc,rfl,hon,ho⟩:=ho;obtain⟨sa,sc,rfl,hsn,hs⟩:=hs;obtain⟨pa,pc,rfl,hpn,hp⟩:=hp;have HF:Hid (∃ F,decide (fewG G)=F/\(F=true↔(∀ k,k<G.prods.length->k<15->(G.prods.getD k default).rs.length<=12)/\G.terms.length<=10/\G.sorts.length<=8/\G.prods.length<=14/\G.over.length<=30)):=
  ⟨_,rfl,by rw[decide_eq_true_iff];rfl⟩
 obtain⟨FF,hFF,hF⟩:=HF.o;rw[hFF];clear HF hFF;clear ht ho hs;generalize G.terms.length=nt at *;generalize G.over.length=no at *;generalize G.sorts.length=ns at *;generalize hnp:G.prods.length=np at *;have HR:=hid hr;have HF:=hid hF;clear hr hF;go_enter Tryz.func44,Tryz.ntmps44;go_wp2;rw[<-hW1,<-hB];clear h hW1 hB
 go_loop [3] (fun i=>∃ k:Nat,k<=np/\k<=15/\i=.int .i64 (k:Int)/\∀ j,j<k->(G.prods.getD j default).rs.length<=12) (fun i=>15-(RowKit.intOf i).toNat)
 case atStart=>exact⟨0,by omega,by omega,rfl,fun j hj=>by omega⟩
 case round =>
  obtain⟨k,hk,hk2,rfl,hj⟩:=hrel;have HJ:=hid hj;clear hj;by_cases hlt:k<np
  ·obtain⟨b,off,rfl,hc⟩:=hp (by omega);obtain⟨d0,d1,d2,d3⟩:=hc k hlt;obtain⟨⟨ra,rc,hrv,hrn,hrc⟩,_⟩:=HR.o k hlt;rw[hrv]at d2;have HC:=hid hrc;have HV:=hid hrv;clear hc hp hrc hrv;generalize hrl:(G.prods.getD k default).rs.length=rl at d2 hrn HC HV;by_cases h15:k<15
   ·have l1:(k:Int)<(np:Int):=(by omega);have l2:(k:Int)<15:=(by omega);by_cases h12:(G.prods.getD k default).rs.length<=12
    ·have H12:=hid h12;rw[hrl]at h12;have l3:(rl:Int)<=12:=(by omega);go_wp2;refine⟨⟨k+1,by omega,by omega,by go_num,fun j hj=>?_⟩,by simp[RowKit.intOf];omega⟩;rcases Nat.lt_or_ge j k with h | h
     ·exact HJ.o j h
     ·obtain rfl:j=k:=by omega
      exact H12.o
    ·have hn:Hid (¬ (FF=true)):=fun h=>h12 ((HF.o.1 h).1 k hlt h15);rw[hrl]at h12;have l3:(12:Int)<(rl:Int):=(by omega);go_wp2;go_ret;exact⟨by rw[Bool.eq_false_iff.2 hn.o]<;>rfl,hb⟩
   ·have l1:(k:Int)<(np:Int):=(by omega);have hn:Hid (FF=false):=Bool.eq_false_iff.2 fun h=>by have:=(HF.o.1 h).2.2.2.1;omega
    have l4:(14:Int)<(np:Int):=(by omega);go_wp2;all_goals
     go_ret;exact⟨by rw[hn.o]<;>rfl,hb⟩
  ·have hkk:k=np:=by omega
   have HFF:Hid (FF=(decide ((nt:Int)<=10) && decide ((ns:Int)<=8) && decide ((np:Int)<=14) && decide ((no:Int)<=30))):=by
    show FF=_;rw[Bool.eq_iff_iff,HF.o];simp only[Bool.and_eq_true,decide_eq_true_eq];constructor
    ·rintro⟨_,h1,h2,h3,h4⟩;omega
    ·rintro⟨⟨⟨h1,h2⟩,h3⟩,h4⟩;exact⟨fun j hj _=>HJ.o j (by omega),by omega,by omega,by omega,by omega⟩
   subst hkk;go_wp2;all_goals
    go_ret;refine⟨?_,hb⟩;rw[HFF.o];refine congrArg (fun b=>Ending.returned (Value.bool b)) ?_;rw[Bool.eq_iff_iff];simp only[Bool.and_eq_true,decide_eq_true_eq,Bool.false_eq_true];constructor
    ·intro h
     first
       | exact h.elim
       | exact⟨⟨⟨by omega,by omega⟩,by omega⟩,by omega⟩
    ·rintro⟨⟨⟨h1,h2⟩,h3⟩,h4⟩;omega
end Go.Proofs.YticmnfmijdgmbaaGreatDoor
